/-
  Several texts in one: SMath SList SCell SSame SSmall SAddr SHead SPass SRead SRAddr SRRead SMayBe SPut SRPut.
-/
import Derived.Deep.RegionHeld3
import Derived.Deep.AppendLies
import Derived.Lib.SliceRun
import Derived.IntWalk
import Derived.Deep.MidRow
import Derived.Laws.ResultCell
import Derived.Laws.CopyOwn
import Derived.BigFrame
import Derived.DeepKeys
import Derived.Laws.StructEq
import Derived.Great.BuildSlice
import Derived.Deep.QuietTactic
import Derived.Deep.RegionLaw
import Derived.BigQuiet
import Derived.Lib.VarintBits
import Derived.Lib.QuoteBits
import Derived.WalkMore
import Derived.Deep.LoopGhost
import Derived.Test.YtomkfcpellcncaaTK
import Derived.Test.YtomkfcpellcncaaQB
namespace Go.Proofs.Ytomkfcpellcncaa
set_option maxRecDepth 100000
section
theorem batN_drop (xs : List UInt8) (p i : Nat) : batN (xs.drop p) i = batN xs (p + i) := by
  unfold batN
  rw [List.getD, List.getD, List.getElem?_drop]
theorem batN_take (xs : List UInt8) {n i : Nat} (h : i < n) : batN (xs.take n) i = batN xs i := by
  unfold batN
  rw [List.getD, List.getD, List.getElem?_take, if_pos h]
theorem batN_cut (xs : List UInt8) (p : Nat) {n i : Nat} (h : i < n) : batN ((xs.drop p).take n) i = batN xs (p + i) := by rw [batN_take _ h, batN_drop]
/-- A header. -/
structure Fr_9 where
  head : Int
  total : Int
  hop : Int
  frag : Bool
  exts : Int
  proto : Int
  s : Ad
  d : Ad
/-- Both addresses have sixteen bytes. -/
structure Fr_9.Ok (f : Fr_9) : Prop where
  s : f.s.b.length = 16
  d : f.d.b.length = 16
def Fr_9.zero : Fr_9 := ⟨0, 0, 0, false, 0, 0, Ad.zero, Ad.zero⟩
theorem Fr_9.ok_zero : Fr_9.zero.Ok := ⟨rfl, rfl⟩
/-- The address of sixteen bytes; the one from place p on. -/
def ad16 (xs : List UInt8) : Ad := ⟨true, xs.take 16⟩
def adOf_9 (xs : List UInt8) (p : Nat) : Ad := ad16 (xs.drop p)
theorem ad16_len {xs : List UInt8} (h : 16 ≤ xs.length) : (ad16 xs).b.length = 16 := by
  show (xs.take 16).length = 16
  rw [List.length_take, Nat.min_eq_left h]
theorem adOf_len_9 (xs : List UInt8) (p : Nat) (h : p + 16 ≤ xs.length) : (adOf_9 xs p).b.length = 16 := ad16_len (by rw [List.length_drop]; omega)
/-- How many bytes the packet has, by what it tells. -/
def totN_9 (xs : List UInt8) : Nat := 40 + wat xs 4
theorem totN_lt (xs : List UInt8) : totN_9 xs < 65576 := by have := wat_lt xs 4; unfold totN_9; omega
/-- Why no packet begins there, whatever is behind its header: 0 if one does. -/
def faultN_9 (xs : List UInt8) : Nat := if xs.length < 40 then 2 else if batN xs 0 / 16 ≠ 6 then 3 else if xs.length < totN_9 xs then 2 else 0
theorem fault_short_9 {xs : List UInt8} (h : xs.length < 40) : faultN_9 xs = 2 := by unfold faultN_9; rw [if_pos h]
theorem fault_form_9 {xs : List UInt8} (h : 40 ≤ xs.length) (h2 : batN xs 0 / 16 ≠ 6) : faultN_9 xs = 3 := by unfold faultN_9; rw [if_neg (by omega), if_pos h2]
theorem fault_more_9 {xs : List UInt8} (h : 40 ≤ xs.length) (h2 : batN xs 0 / 16 = 6) (h3 : xs.length < totN_9 xs) : faultN_9 xs = 2 := by unfold faultN_9; rw [if_neg (by omega), if_neg (by omega), if_pos h3]
theorem fault_no_9 {xs : List UInt8} (h : 40 ≤ xs.length) (h2 : batN xs 0 / 16 = 6) (h3 : totN_9 xs ≤ xs.length) : faultN_9 xs = 0 := by unfold faultN_9; rw [if_neg (by omega), if_neg (by omega), if_neg (by omega)]
theorem fault_zero_9 {xs : List UInt8} (h : faultN_9 xs = 0) : 40 ≤ xs.length ∧ batN xs 0 / 16 = 6 ∧ totN_9 xs ≤ xs.length := by
  unfold faultN_9 at h
  split at h
  · omega
  split at h
  · omega
  split at h
  · omega
  exact ⟨by omega, by omega, by omega⟩
theorem faultN_le_9 (xs : List UInt8) : faultN_9 xs ≤ 3 := by
  unfold faultN_9
  repeat' split
  all_goals omega
/-- Is a protocol an extension's? -/
def extB (p : Nat) : Bool := p == 0 || (p == 43 || (p == 60 || (p == 51 || p == 44)))
theorem ext_cases {p : Nat} (h : extB p = true) : p = 0 ∨ p = 43 ∨ p = 60 ∨ p = 51 ∨ p = 44 := by
  simpa [extB] using h
/-- How many bytes an extension has, by its kind and its second byte. -/
def szN (p m : Nat) : Nat := if p = 44 then 8 else if p = 51 then 8 + 4 * m else 8 + 8 * m
theorem szN_ge (p m : Nat) : 8 ≤ szN p m := by
  unfold szN
  repeat' split
  all_goals omega
theorem szN_le (p m : Nat) (h : m < 256) : szN p m ≤ 2048 := by
  unfold szN
  repeat' split
  all_goals omega
/-- Does an extension of kind p whose third and fourth byte make w tell of a fragment? -/
def fragB (p w : Nat) : Bool := p == 44 && (w / 8 != 0 || w % 2 != 0)
/-- How far the extensions were gone through. -/
structure Wk where
  head : Nat
  exts : Nat
  proto : Nat
  frag : Bool
def stepF (xs : List UInt8) (T : Nat) (k : Wk) : Nat := if k.exts = 8 then 4 else if T - k.head < 8 then 2 else if T - k.head < szN k.proto (batN xs (k.head + 1)) then 2 else 0
def stepK (xs : List UInt8) (k : Wk) : Wk := ⟨k.head + szN k.proto (batN xs (k.head + 1)), k.exts + 1, batN xs k.head, fragB k.proto (wat xs (k.head + 2))⟩
/-- Does it go on? -/
def goB (k : Wk) : Bool := extB k.proto && !k.frag
def walkN (xs : List UInt8) (T : Nat) : Nat → Wk → Nat × Wk
  | 0, k => (0, k)
  | n + 1, k => if goB k = true then (if stepF xs T k = 0 then walkN xs T n (stepK xs k) else (stepF xs T k, k)) else (0, k)
/-- From where it begins. -/
def wk0 (xs : List UInt8) : Wk := ⟨40, 0, batN xs 6, false⟩
def walkOf (xs : List UInt8) (T : Nat) (k : Wk) : Nat × Wk := walkN xs T (9 - k.exts) k
theorem walk_end {xs : List UInt8} {T : Nat} {k : Wk} (h : goB k = false) : walkOf xs T k = (0, k) := by
  unfold walkOf
  match 9 - k.exts with
  | 0 => rfl
  | n + 1 => unfold walkN; rw [if_neg (by rw [h]; decide)]
theorem walk_bad {xs : List UInt8} {T : Nat} {k : Wk} (h : goB k = true) (he : k.exts ≤ 8) (hs : stepF xs T k ≠ 0) : walkOf xs T k = (stepF xs T k, k) := by
  unfold walkOf
  obtain ⟨n, hn⟩ : ∃ n, 9 - k.exts = n + 1 := ⟨8 - k.exts, by omega⟩
  rw [hn]; unfold walkN; rw [if_pos h, if_neg hs]
theorem walk_step {xs : List UInt8} {T : Nat} {k : Wk} (h : goB k = true) (he : k.exts ≤ 8) (hs : stepF xs T k = 0) : walkOf xs T k = walkOf xs T (stepK xs k) := by
  unfold walkOf
  obtain ⟨n, hn⟩ : ∃ n, 9 - k.exts = n + 1 := ⟨8 - k.exts, by omega⟩
  have e : 9 - (stepK xs k).exts = n := by show 9 - (k.exts + 1) = n; omega
  rw [hn, e]
  show (if goB k = true then (if stepF xs T k = 0 then walkN xs T n (stepK xs k) else (stepF xs T k, k)) else (0, k)) = _
  rw [if_pos h, if_pos hs]
theorem step_four {xs : List UInt8} {T : Nat} {k : Wk} (h : k.exts = 8) : stepF xs T k = 4 := by unfold stepF; rw [if_pos h]
theorem step_few {xs : List UInt8} {T : Nat} {k : Wk} (h : k.exts ≠ 8) (h2 : T - k.head < 8) : stepF xs T k = 2 := by unfold stepF; rw [if_neg h, if_pos h2]
theorem step_less {xs : List UInt8} {T : Nat} {k : Wk} (h : k.exts ≠ 8) (h3 : T - k.head < szN k.proto (batN xs (k.head + 1))) : stepF xs T k = 2 := by
  unfold stepF
  rw [if_neg h]
  split
  all_goals rfl
theorem step_ok {xs : List UInt8} {T : Nat} {k : Wk} (h : k.exts ≠ 8) (h3 : szN k.proto (batN xs (k.head + 1)) ≤ T - k.head) : stepF xs T k = 0 := by
  have := szN_ge k.proto (batN xs (k.head + 1))
  unfold stepF
  rw [if_neg h, if_neg (by omega), if_neg (by omega)]
/-- How far one that is gone through may be. -/
structure Wk.Fit (T : Nat) (k : Wk) : Prop where
  h0 : 40 ≤ k.head
  h1 : k.head ≤ T
  e : k.exts ≤ 8
  p : k.proto < 256
theorem wk0_fit {xs : List UInt8} {T : Nat} (h : 40 ≤ T) : (wk0 xs).Fit T := ⟨Nat.le_refl _, h, Nat.zero_le _, batN_lt _ _⟩
theorem stepK_fit {xs : List UInt8} {T : Nat} {k : Wk} (h : k.Fit T) (hs : stepF xs T k = 0) : (stepK xs k).Fit T := by
  have h0 := h.h0
  have h1 := h.h1
  have he := h.e
  unfold stepF at hs
  split at hs
  · omega
  split at hs
  · omega
  split at hs
  · omega
  exact ⟨by show 40 ≤ k.head + _; omega, by show k.head + szN k.proto (batN xs (k.head + 1)) ≤ T; omega, by show k.exts + 1 ≤ 8; omega, batN_lt _ _⟩
/-- The header of which so many extensions were gone through. -/
def hdAt (xs : List UInt8) (k : Wk) : Fr_9 := ⟨(k.head : Nat), (totN_9 xs : Nat), (batN xs 7 : Nat), k.frag, (k.exts : Nat), (k.proto : Nat), adOf_9 xs 8, adOf_9 xs 24⟩
theorem hdAt_ok (xs : List UInt8) (k : Wk) (h : 40 ≤ xs.length) : (hdAt xs k).Ok := ⟨adOf_len_9 xs 8 (by omega), adOf_len_9 xs 24 (by omega)⟩
/-- The header that is read, and the error. -/
def rdN (xs : List UInt8) : Nat := if faultN_9 xs = 0 then (walkOf xs (totN_9 xs) (wk0 xs)).1 else faultN_9 xs
def rdF_9 (xs : List UInt8) : Fr_9 := if rdN xs = 0 then hdAt xs (walkOf xs (totN_9 xs) (wk0 xs)).2 else Fr_9.zero
theorem rdN_bad {xs : List UInt8} (h : faultN_9 xs ≠ 0) : rdN xs = faultN_9 xs := by unfold rdN; rw [if_neg h]
theorem rdF_bad {xs : List UInt8} (h : faultN_9 xs ≠ 0) : rdF_9 xs = Fr_9.zero := by unfold rdF_9; rw [if_neg (by rw [rdN_bad h]; exact h)]
theorem rdN_walk {xs : List UInt8} (h : faultN_9 xs = 0) : rdN xs = (walkOf xs (totN_9 xs) (wk0 xs)).1 := by unfold rdN; rw [if_pos h]
theorem rdF_yes_9 {xs : List UInt8} (h : rdN xs = 0) : rdF_9 xs = hdAt xs (walkOf xs (totN_9 xs) (wk0 xs)).2 := by unfold rdF_9; rw [if_pos h]
theorem rdF_no_9 {xs : List UInt8} (h : rdN xs ≠ 0) : rdF_9 xs = Fr_9.zero := by unfold rdF_9; rw [if_neg h]
theorem rdF_ok_9 (xs : List UInt8) : (rdF_9 xs).Ok := by
  unfold rdF_9
  split
  · rename_i h
    by_cases hf : faultN_9 xs = 0
    · exact hdAt_ok xs _ (fault_zero_9 hf).1
    · rw [rdN_bad hf] at h; exact absurd h hf
  · exact Fr_9.ok_zero
theorem stepF_le (xs : List UInt8) (T : Nat) (k : Wk) : stepF xs T k ≤ 4 := by 
  unfold stepF
  repeat' split
  all_goals omega
theorem walkN_le (xs : List UInt8) (T : Nat) : ∀ (n : Nat) (k : Wk), (walkN xs T n k).1 ≤ 4
  | 0, k => Nat.zero_le _
  | n + 1, k => by
    unfold walkN
    split
    · split
      · exact walkN_le xs T n _
      · exact stepF_le xs T k
    · exact Nat.zero_le _
theorem rdN_le (xs : List UInt8) : rdN xs ≤ 4 := by
  unfold rdN
  split
  · exact walkN_le _ _ _ _
  · have := faultN_le_9 xs; omega
/-- Is a number a protocol of an extension? -/
def extI (z : Int) : Bool := z == 0 || (z == 43 || (z == 60 || (z == 51 || z == 44)))
theorem extI_nat (p : Nat) : extI (p : Int) = extB p := by
  apply Bool.eq_iff_iff.2
  simp only [extI, extB, Bool.or_eq_true, beq_iff_eq]
  omega
/-- May a header be laid? -/
def rightB_9 (f : Fr_9) : Bool := decide (f.head = 40) && (inB f.total 40 65575 && (!f.frag && (decide (f.exts = 0) && (inB f.hop 0 255 && (inB f.proto 0 255 && (!extI f.proto && (f.s.six && f.d.six)))))))
structure Fr_9.Good (f : Fr_9) : Prop where
  head : f.head = 40
  t0 : 40 ≤ f.total
  t1 : f.total ≤ 65575
  frag : f.frag = false
  exts : f.exts = 0
  o0 : 0 ≤ f.hop
  o1 : f.hop ≤ 255
  p0 : 0 ≤ f.proto
  p1 : f.proto ≤ 255
  ext : extI f.proto = false
  s : f.s.six = true
  d : f.d.six = true
theorem right_good_9 {f : Fr_9} (h : rightB_9 f = true) : f.Good := by
  simp only [rightB_9, inB, Bool.and_eq_true, decide_eq_true_eq, Bool.not_eq_true'] at h
  obtain ⟨h1, ⟨h2, h3⟩, h4, h5, ⟨h6, h7⟩, ⟨h8, h9⟩, h10, h11, h12⟩ := h
  exact ⟨h1, h2, h3, h4, h5, h6, h7, h8, h9, h10, h11, h12⟩
/-- Forty bytes of a header: N behind it, of protocol P, hop H. -/
def hdr_9 (N P H : Nat) (s d : List UInt8) : List UInt8 :=
  96 :: 0 :: 0 :: 0 :: UInt8.ofNat (N / 256) :: UInt8.ofNat (N % 256) :: UInt8.ofNat P :: UInt8.ofNat H :: (s ++ d)
def putF_9 (f : Fr_9) : List UInt8 := hdr_9 (f.total - 40).toNat f.proto.toNat f.hop.toNat f.s.b f.d.b
theorem hdr_len_9 (N P H : Nat) (s d : List UInt8) (hs : s.length = 16) (hd : d.length = 16) : (hdr_9 N P H s d).length = 40 := by
  unfold hdr_9
  simp only [List.length_cons, List.length_append, hs, hd]
theorem putF_len_9 {f : Fr_9} (h : f.Ok) : (putF_9 f).length = 40 := hdr_len_9 _ _ _ _ _ h.s h.d
section
variable (N P H : Nat) (s d rest : List UInt8)
theorem hdr_drop_9 : (hdr_9 N P H s d ++ rest).drop 8 = s ++ (d ++ rest) := by
  show (s ++ d) ++ rest = _
  rw [List.append_assoc]
theorem hdr_b0_9 : batN (hdr_9 N P H s d ++ rest) 0 = 96 := rfl
theorem hdr_b4_9 (h : N < 65536) : wat (hdr_9 N P H s d ++ rest) 4 = N := by
  show 256 * (UInt8.ofNat (N / 256)).toNat + (UInt8.ofNat (N % 256)).toNat = N
  rw [u8nat (by omega), u8nat (by omega)]; omega
theorem hdr_b6_9 (h : P < 256) : batN (hdr_9 N P H s d ++ rest) 6 = P := (show _ = (UInt8.ofNat P).toNat from rfl).trans (u8nat h)
theorem hdr_b7 (h : H < 256) : batN (hdr_9 N P H s d ++ rest) 7 = H := (show _ = (UInt8.ofNat H).toNat from rfl).trans (u8nat h)
theorem hdr_s_9 (hs : s.length = 16) : adOf_9 (hdr_9 N P H s d ++ rest) 8 = ⟨true, s⟩ := by
  unfold adOf_9 ad16
  rw [hdr_drop_9, List.take_append_of_le_length (by omega), List.take_of_length_le (by omega)]
theorem hdr_d_9 (hs : s.length = 16) (hd : d.length = 16) : adOf_9 (hdr_9 N P H s d ++ rest) 24 = ⟨true, d⟩ := by
  unfold adOf_9 ad16
  rw [show (24 : Nat) = 8 + 16 from rfl, ← List.drop_drop, hdr_drop_9, List.drop_append_of_le_length (by omega), List.drop_of_length_le (by omega), List.nil_append, List.take_append_of_le_length (by omega), List.take_of_length_le (by omega)]
theorem hdr_tot (h : N < 65536) : totN_9 (hdr_9 N P H s d ++ rest) = 40 + N := by unfold totN_9; rw [hdr_b4_9 N P H s d rest h]
theorem hdr_fault (h : N < 65536) (hs : s.length = 16) (hd : d.length = 16) (hl : N ≤ rest.length) : faultN_9 (hdr_9 N P H s d ++ rest) = 0 := by
  refine fault_no_9 ?_ (by rw [hdr_b0_9]) ?_
  · rw [List.length_append, hdr_len_9 _ _ _ _ _ hs hd]; omega
  · rw [hdr_tot N P H s d rest h, List.length_append, hdr_len_9 _ _ _ _ _ hs hd]; omega
theorem hdr_at (h : N < 65536) (hH : H < 256) (hs : s.length = 16) (hd : d.length = 16) (k : Wk) : hdAt (hdr_9 N P H s d ++ rest) k = ⟨(k.head : Nat), ((40 + N : Nat) : Int), (H : Nat), k.frag, (k.exts : Nat), (k.proto : Nat), ⟨true, s⟩, ⟨true, d⟩⟩ := by
  unfold hdAt
  rw [hdr_tot N P H s d rest h, hdr_b7 N P H s d rest hH, hdr_s_9 N P H s d rest hs, hdr_d_9 N P H s d rest hs hd]
theorem hdr_wk0 (hP : P < 256) : wk0 (hdr_9 N P H s d ++ rest) = ⟨40, 0, P, false⟩ := by unfold wk0; rw [hdr_b6_9 N P H s d rest hP]
end
/-- The parts of a header that may be laid, as whole numbers. -/
theorem Fr_9.Good.nats {f : Fr_9} (g : f.Good) : ∃ N P H : Nat, f = ⟨40, ((40 + N : Nat) : Int), (H : Int), false, 0, (P : Int), ⟨true, f.s.b⟩, ⟨true, f.d.b⟩⟩ ∧ N < 65536 ∧ H < 256 ∧ P < 256 ∧ extB P = false := by
  obtain ⟨N, hN⟩ := Int.eq_ofNat_of_zero_le (show 0 ≤ f.total - 40 by have := g.t0; omega)
  obtain ⟨H, hH⟩ := Int.eq_ofNat_of_zero_le g.o0
  obtain ⟨P, hP⟩ := Int.eq_ofNat_of_zero_le g.p0
  have hT : f.total = ((40 + N : Nat) : Int) := by omega
  have t1 := g.t1
  have o1 := g.o1
  have p1 := g.p1
  have e0 := g.head
  have e3 := g.frag
  have e4 := g.exts
  have e5 := g.ext
  have es := g.s
  have ed := g.d
  rw [hP, extI_nat] at e5
  refine ⟨N, P, H, ?_, by omega, by omega, by omega, e5⟩
  obtain ⟨h0, tt, hh, fr, ex, pp, ⟨s6, sb⟩, ⟨d6, db⟩⟩ := f
  simp only at *
  rw [e0, hT, hH, e3, e4, hP, es, ed]
theorem putF_nats (N P H : Nat) (s d : List UInt8) : putF_9 ⟨40, ((40 + N : Nat) : Int), (H : Int), false, 0, (P : Int), ⟨true, s⟩, ⟨true, d⟩⟩ = hdr_9 N P H s d := by
  unfold putF_9
  simp only [Int.toNat_natCast]
  rw [show (((40 + N : Nat) : Int) - 40) = (N : Int) by omega, Int.toNat_natCast]
/-- What is laid is read as it was, with enough bytes behind it. -/
theorem putF_back_9 {f : Fr_9} (h : f.Ok) (hr : rightB_9 f = true) (rest : List UInt8) (hl : f.total ≤ ((putF_9 f ++ rest).length : Nat)) : rdN (putF_9 f ++ rest) = 0 ∧ rdF_9 (putF_9 f ++ rest) = f := by
  obtain ⟨N, P, H, hf, n1, h1, p1, hx⟩ := (right_good_9 hr).nats
  have hs := h.s
  have hd := h.d
  have hlen := putF_len_9 h
  generalize f.s.b = s at *
  generalize f.d.b = d at *
  subst hf
  rw [putF_nats] at hl hlen ⊢
  rw [List.length_append, hlen] at hl
  have hff := hdr_fault N P H s d rest n1 hs hd (by simp only at hl; omega)
  have hw : walkOf (hdr_9 N P H s d ++ rest) (totN_9 (hdr_9 N P H s d ++ rest)) (wk0 (hdr_9 N P H s d ++ rest)) = (0, ⟨40, 0, P, false⟩) := by
    rw [hdr_wk0 N P H s d rest p1]
    exact walk_end (by unfold goB; rw [hx]; rfl)
  have h0 : rdN (hdr_9 N P H s d ++ rest) = 0 := by rw [rdN_walk hff, hw]
  refine ⟨h0, ?_⟩
  rw [rdF_yes_9 h0, hw, hdr_at N P H s d rest n1 h1 hs hd]
  rfl
end
section
open Go.RowKit Go.Lib
end
section
open Go.RowKit Go.Lib
def frN_9 (f : Fr_9) : List Value := [.int .i64 f.head, .int .i64 f.total, .int .i64 f.hop, .bool f.frag, .int .i64 f.exts, .int .i64 f.proto]
def frL_9 (f : Fr_9) : List Value := frN_9 f ++ (adL f.s ++ adL f.d)
def frC_9 (f : Fr_9) : Value := .agg (frL_9 f).toArray
theorem frL_len_9 {f : Fr_9} (h : f.Ok) : (frL_9 f).length = 40 := by
  unfold frL_9
  rw [List.length_append, List.length_append, adL_len h.s, adL_len h.d]
  rfl
theorem frL_one_9 (f : Fr_9) : ∀ v ∈ frL_9 f, v.oneCell' = true := by
  intro v hv
  unfold frL_9 at hv
  rcases List.mem_append.1 hv with hv | hv
  · simp only [frN_9, List.mem_cons, List.not_mem_nil, or_false] at hv
    rcases hv with rfl | rfl | rfl | rfl | rfl | rfl <;> rfl
  · rcases List.mem_append.1 hv with hv | hv
    · exact adL_one _ v hv
    · exact adL_one _ v hv
theorem sizeFr_9 : (Try.prog.info? 65).map (·.size) = some 40 := by kernel_rfl
theorem sizeFrL_9 {f : Fr_9} (h : f.Ok) : (Try.prog.info? 65).map (·.size) = some (frL_9 f).length := by rw [frL_len_9 h]; exact sizeFr_9
/-- Block g is a row of just these cells, of type T. -/
def Blk_9 (w : World) (T : TypeId) (g : Nat) (cs : List Value) : Prop := w.heap[g]? = some (.cells cs.toArray T (0, 0))
section
variable {w w' : World} {T : TypeId} {g : Nat} {cs : List Value}
theorem Blk_9.lt (h : Blk_9 w T g cs) : g < w.heap.size := (Array.getElem?_eq_some_iff.1 h).1
theorem Blk_9.new (w : World) (T : TypeId) (cs : List Value) : Blk_9 (w.alloc (.cells cs.toArray T)) T w.heap.size cs := heap_alloc_new w _
theorem Blk_9.alloc (h : Blk_9 w T g cs) (o : Obj) : Blk_9 (w.alloc o) T g cs := (Below.heap_alloc w o g h.lt).trans h
theorem Blk_9.drew (h : Blk_9 w T g cs) : Blk_9 w.drew T g cs := h
theorem Blk_9.below (h : Blk_9 w T g cs) {B : Nat} (hB : g < B) (hb : Below B w w') : Blk_9 w' T g cs := (hb.block g hB).trans h
theorem Blk_9.cell (h : Blk_9 w T g cs) {i : Nat} {v : Value} (hv : cs[i]? = some v) : w.cell? ⟨g, i, none⟩ = some v := by
  rw [cell_of_row w g i _ _ (0, 0) h]; simpa using hv
theorem Blk_9.frozen (h : Blk_9 w T g cs) (i : Nat) : w.frozen? ⟨g, i, none⟩ = false := by
  unfold Blk_9 at h; simp [World.frozen?, h]
theorem Blk_9.set (h : Blk_9 w T g cs) (i : Nat) (v : Value) : Blk_9 (w.setCell ⟨g, i, none⟩ v) T g (cs.set i v) := by
  unfold Blk_9 at h ⊢
  simp [World.setCell, Array.getElem?_modify, h]
theorem Blk_9.far (h : Blk_9 w T g cs) {p : Addr} (hp : g ≠ p.block) (u : Value) : Blk_9 (w.setCell p u) T g cs := (Below.heap_setCell w p u g hp).trans h
theorem Blk_9.setRow_ (h : Blk_9 w T g cs) (ds : List Value) : Blk_9 (w.setRow g ds.toArray) T g ds := setRow_heap w g _ _ T (0, 0) h
theorem Blk_9.setRow_far (h : Blk_9 w T g cs) {b : Nat} (hb : g ≠ b) (ds : Array Value) : Blk_9 (w.setRow b ds) T g cs := (setRow_other w b g ds hb).trans h
theorem Blk_9.grown (h : Blk_9 w T g cs) {row : Option Nat} (hg : w.grownBy w' row) (hr : row ≠ some g) : Blk_9 w' T g cs := (hg.block g h.lt (fun e => hr e.symm)).trans h
theorem Blk_9.range (h : Blk_9 w T g cs) : w.rangeAt g 0 cs := fun j v hv => by
  rw [Nat.zero_add]; exact h.cell hv
theorem Blk_9.mid (h : Blk_9 w T g cs) {pre mid post : List Value} (e : cs = pre ++ (mid ++ post)) {o : Nat} (ho : pre.length = o) : w.rangeAt g o mid := fun j v hv => by
  refine h.cell ?_
  subst ho
  rw [e, List.getElem?_append_right (by omega), Nat.add_sub_cancel_left, List.getElem?_append_left (List.getElem?_eq_some_iff.1 hv).1]; exact hv
end
section
variable {w w' : World} {T : TypeId} {g : Nat} {f : Fr_9} {a : Ad}
theorem Blk_9.src (h : Blk_9 w T g (frL_9 f)) : w.rangeAt g 6 (adL f.s) := h.mid (pre := frN_9 f) (post := adL f.d) rfl rfl
theorem Blk_9.dst (h : Blk_9 w T g (frL_9 f)) (ho : f.Ok) : w.rangeAt g 23 (adL f.d) := h.mid (pre := frN_9 f ++ adL f.s) (post := []) (by rw [List.append_nil, List.append_assoc]; rfl) (by rw [List.length_append, adL_len ho.s]; rfl)
theorem Blk_9.srcB (h : Blk_9 w T g (frL_9 f)) : w.rangeAt g 7 (f.s.b.map v8) := h.mid (pre := frN_9 f ++ [.bool f.s.six]) (post := adL f.d) (by rw [List.append_assoc]; rfl) rfl
theorem Blk_9.dstB (h : Blk_9 w T g (frL_9 f)) (ho : f.Ok) : w.rangeAt g 24 (f.d.b.map v8) := h.mid (pre := frN_9 f ++ (adL f.s ++ [.bool f.d.six])) (post := []) (by rw [List.append_nil, List.append_assoc, List.append_assoc]; rfl) (by rw [List.length_append, List.length_append, adL_len ho.s]; rfl)
theorem Blk_9.adB (h : Blk_9 w T g (adL a)) : w.rangeAt g 1 (a.b.map v8) := h.mid (pre := [.bool a.six]) (post := []) (by rw [List.append_nil]; rfl) rfl
end
/-- A whole value into its block: a law for the walk. -/
theorem wpList_storeR_9 {w : World} {ops : Array Oper} {rest : List Oper} {op : Oper} {a : Act} {Q : Exit → Act → World → Prop} (hgd : op.guard = none) (T : TypeId) (x y : Operand) (ho : op.op = .store T x y)
    (g : Nat) (hx : a.eval x = .pointer (some ⟨g, 0, none⟩)) (cs : List Value) (hy : a.eval y = .agg cs.toArray) (old : List Value) (hb : Blk_9 w T g old) (hl : old.length = cs.length)
    (hi : (Try.prog.info? T).map (·.size) = some cs.length) (h1 : ∀ v ∈ cs, v.oneCell' = true)
    (h : wpList Try.prog ops Q rest (a.put op.dst undef) (w.setRow g cs.toArray)) : wpList Try.prog ops Q (op :: rest) a w := by
  refine wpList_plain hgd fun K hK => ?_
  have hr := run_storeVar_row (P := Try.prog) w g T T old.toArray cs.toArray hb (by simpa using hi) (by simpa using hl) (Array.all_eq_true_iff_forall_mem.2 (fun v hv => h1 v (by simpa using hv)))
  unfold Oper.wp execOp
  simp only [ho, hx, hy, Instr.storeAt, Instr.sureAddr, Sem.run_bind, Sem.run_pure, Result.andThen_ok, hr]
  exact hK _ _ h
/-- The same, at a step of a region that draws. -/
theorem step_storeR_9 {w : World} {ops : Array Oper} {op : Oper} {a : Act} {K : Act → World → Prop} {Q : Exit → Act → World → Prop} {E : Prop} (hgd : op.guard = none) (T : TypeId) (x y : Operand) (ho : op.op = .store T x y)
    (g : Nat) (hx : a.eval x = .pointer (some ⟨g, 0, none⟩)) (cs : List Value) (hy : a.eval y = .agg cs.toArray) (old : List Value) (hb : Blk_9 w T g old) (hl : old.length = cs.length)
    (hi : (Try.prog.info? T).map (·.size) = some cs.length) (h1 : ∀ v ∈ cs, v.oneCell' = true)
    (h : K (a.put op.dst undef) (w.setRow g cs.toArray)) : if Region.wanted op (yielded ops a.tmps) = true then Oper.wp Try.prog op a w K Q else E := by
  have hw : Region.wanted op (yielded ops a.tmps) = true := by simp [Region.wanted, hgd]
  rw [if_pos hw]
  have hr := run_storeVar_row (P := Try.prog) w g T T old.toArray cs.toArray hb (by simpa using hi) (by simpa using hl) (Array.all_eq_true_iff_forall_mem.2 (fun v hv => h1 v (by simpa using hv)))
  unfold Oper.wp execOp
  simp only [ho, hx, hy, Instr.storeAt, Instr.sureAddr, Sem.run_bind, Sem.run_pure, Result.andThen_ok, hr]
  exact h
/-- A whole header out of its block: a law for the walk. -/
theorem wpList_loadF_9 {w : World} {ops : Array Oper} {rest : List Oper} {op : Oper} {a : Act} {Q : Exit → Act → World → Prop} (hgd : op.guard = none) (x : Operand) (ho : op.op = .load 65 x)
    (g : Nat) (hx : a.eval x = .pointer (some ⟨g, 0, none⟩)) (f : Fr_9) (h : f.Ok) (hb : Blk_9 w 65 g (frL_9 f))
    (hk : wpList Try.prog ops Q rest (a.put op.dst (frC_9 f)) w) : wpList Try.prog ops Q (op :: rest) a w :=
  wpList_load_mid hgd 65 x ho g 0 hx (frL_9 f) _ hb.range Try.underlying65 rfl (sizeFrL_9 h) hk
/-- The result of one address in a cell. -/
theorem results_ad_9 {fn : Func} {p : Tmp} (hr : fn.results = #[.cell p 25]) (tmps : Array Value) (w : World) (g : Nat) (hp : tmps.getD p undef = .pointer (some ⟨g, 0, none⟩)) (a : Ad) (h : a.b.length = 16) (hb : Blk_9 w 25 g (adL a)) :
    (results fn tmps).run Try.prog w = .ok (adC a) w := by
  have hl := run_loadVar_mid (P := Try.prog) w g 0 25 (adL a) _ hb.range Try.underlying25 rfl (sizeAdL h)
  rw [results_cell0 hr, hp]
  simp [Result.andThen, asAddr, hl, adC]
/-- The result of one header in a cell. -/
theorem results_fr1_9 {fn : Func} {p : Tmp} (hr : fn.results = #[.cell p 65]) (tmps : Array Value) (w : World) (g : Nat) (hp : tmps.getD p undef = .pointer (some ⟨g, 0, none⟩)) (f : Fr_9) (h : f.Ok) (hb : Blk_9 w 65 g (frL_9 f)) :
    (results fn tmps).run Try.prog w = .ok (frC_9 f) w := by
  have hl := run_loadVar_mid (P := Try.prog) w g 0 65 (frL_9 f) _ hb.range Try.underlying65 rfl (sizeFrL_9 h)
  rw [results_cell0 hr, hp]
  simp [Result.andThen, asAddr, hl, frC_9]
/-- The results (header, number), the header in a cell. -/
theorem results_fr_9 {fn : Func} {p u : Tmp} (hr : fn.results = #[.cell p 65, .tmp u]) (tmps : Array Value) (w : World) (g : Nat) (hp : tmps.getD p undef = .pointer (some ⟨g, 0, none⟩)) (f : Fr_9) (h : f.Ok) (hb : Blk_9 w 65 g (frL_9 f))
    (v : Value) (hu : tmps.getD u undef = v) : (results fn tmps).run Try.prog w = .ok (.tuple #[frC_9 f, v]) w := by
  have hl := run_loadVar_mid (P := Try.prog) w g 0 65 (frL_9 f) _ hb.range Try.underlying65 rfl (sizeFrL_9 h)
  rw [results_cell_tmp hr, hp, hu]
  simp [Result.andThen, asAddr, hl, frC_9]
/-- A header without extensions, put together of its parts, in either order. -/
theorem built_at_9 (a0 a1 a2 a5 : Int) (s d : Ad) (hs : s.b.length = 16) (hd : d.b.length = 16) : Try.prog.built 65 [(0, .int .i64 a0), (1, .int .i64 a1), (2, .int .i64 a2), (5, .int .i64 a5), (6, adC s), (7, adC d)] = some (frL_9 ⟨a0, a1, a2, false, 0, a5, s, d⟩).toArray := by
  obtain ⟨s, sb⟩ := s
  obtain ⟨d, db⟩ := d
  obtain ⟨a0, a1, a2, a3, a4, a5, a6, a7, a8, a9, a10, a11, a12, a13, a14, a15, rfl⟩ := sixteen hs
  obtain ⟨b0, b1, b2, b3, b4, b5, b6, b7, b8, b9, b10, b11, b12, b13, b14, b15, rfl⟩ := sixteen hd
  kernel_rfl
theorem built_at2 (a0 a1 a2 a5 : Int) (s d : Ad) (hs : s.b.length = 16) (hd : d.b.length = 16) : Try.prog.built 65 [(0, .int .i64 a0), (1, .int .i64 a1), (5, .int .i64 a5), (2, .int .i64 a2), (6, adC s), (7, adC d)] = some (frL_9 ⟨a0, a1, a2, false, 0, a5, s, d⟩).toArray := by
  obtain ⟨s, sb⟩ := s
  obtain ⟨d, db⟩ := d
  obtain ⟨a0, a1, a2, a3, a4, a5, a6, a7, a8, a9, a10, a11, a12, a13, a14, a15, rfl⟩ := sixteen hs
  obtain ⟨b0, b1, b2, b3, b4, b5, b6, b7, b8, b9, b10, b11, b12, b13, b14, b15, rfl⟩ := sixteen hd
  kernel_rfl
end
section
open Go.RowKit Go.Lib
end
section
open Go.RowKit Go.Lib
set_option maxHeartbeats 1000000 in
theorem num_any_9 {A : Option Addr} {len : Nat} {cap p : Nat} {xs : List UInt8} (z : Int) (hz : z = (p : Int)) (hlen : len ≤ 1000000000) (hcap : len ≤ cap) (hcap2 : cap ≤ maxLen) (h : p + 2 ≤ len) {w : World} (hI : Rd w w.heap.size A len xs) :
    Calls Try.prog 90 #[.slice A len cap, .int .i64 z] w fun e w' => e = .returned (.int .i64 (wat xs p : Nat)) ∧ Below w.heap.size w w' := by
  subst hz
  have hcut := run_cut8 A len cap p 2 (p : Int) ((p : Int) + 2) rfl (by omega) (by omega)
  have hr := hI.cut (l := p) (n := 2) h cap hcap
  have hg := get_any (cutA A cap p) 2 (cap - p) ((xs.drop p).take 2) true (by omega) (by omega) (by omega) w hr
  have e : getOf ((xs.drop p).take 2) true = wat xs p := by
    rw [← wat_num xs p (by rw [hI.len]; exact h)]
    unfold getOf
    rw [if_pos rfl, List.take_of_length_le (i := 8) (by rw [List.length_take]; omega)]
  rw [e] at hg
  have hlt := wat_lt xs p
  obtain ⟨n, hn⟩ : ∃ n, wat xs p = n := ⟨_, rfl⟩
  rw [hn] at hg hlt ⊢
  have HG := Lib.hid hg
  have hw : IntKind.i64.wrap ((p : Int) + 2) = (p : Int) + 2 := by rw [IntKind.wrap_i64]; omega
  clear hg e hn hr hI
  go_enter Try.func90, Try.ntmps90
  go_wp2_with fail
  refine HG.out.mono ?_
  rintro e w1 ⟨rfl, hb⟩
  go_wp2_with fail
  go_ret
  exact ⟨rfl, hb⟩
set_option maxHeartbeats 1000000 in
theorem total_any {A : Option Addr} {len : Nat} {cap : Nat} {xs : List UInt8} (hlen : len ≤ 1000000000) (hcap : len ≤ cap) (hcap2 : cap ≤ maxLen) (h : 40 ≤ len) {w : World} (hI : Rd w w.heap.size A len xs) :
    Calls Try.prog 87 #[.slice A len cap] w fun e w' => e = .returned (.int .i64 (totN_9 xs : Nat)) ∧ Below w.heap.size w w' := by
  have HN := Lib.hid (num_any_9 (p := 4) 4 rfl hlen hcap hcap2 (by omega) hI)
  have e : ((totN_9 xs : Nat) : Int) = 40 + ((wat xs 4 : Nat) : Int) := by unfold totN_9; omega
  have hlt := wat_lt xs 4
  rw [e]
  clear e hI
  generalize wat xs 4 = n at *
  have hw : IntKind.i64.wrap (40 + (n : Int)) = 40 + (n : Int) := by rw [IntKind.wrap_i64]; omega
  go_enter Try.func87, Try.ntmps87
  go_wp2_with fail
  refine HN.out.mono ?_
  rintro e w1 ⟨rfl, hb⟩
  go_wp2_with fail
  go_ret
  exact ⟨rfl, hb⟩
/-- What size answers. -/
def szI (z : Int) (m : Nat) : Int := if z = 0 ∨ z = 43 ∨ z = 60 then 8 + 8 * (m : Int) else if z = 51 then 8 + 4 * (m : Int) else if z = 44 then 8 else 0
theorem szI_nat {p : Nat} (h : extB p = true) (m : Nat) : szI (p : Int) m = ((szN p m : Nat) : Int) := by
  rcases ext_cases h with rfl | rfl | rfl | rfl | rfl <;> simp [szI, szN]
theorem szI_ext (z : Int) : decide (szI z 0 > 0) = extI z := by
  by_cases h0 : z = 0
  · subst h0; decide
  by_cases h43 : z = 43
  · subst h43; decide
  by_cases h60 : z = 60
  · subst h60; decide
  by_cases h51 : z = 51
  · subst h51; decide
  by_cases h44 : z = 44
  · subst h44; decide
  simp [szI, extI, h0, h43, h60, h51, h44]
set_option maxHeartbeats 1000000 in
theorem size_any (z : Int) (m : Nat) (hm : m < 256) (w : World) : Calls Try.prog 89 #[.int .i64 z, .int .i64 (m : Int)] w fun e w' => e = .returned (.int .i64 (szI z m)) ∧ w = w' := by
  have w2 : IntKind.i64.wrap ((m : Int) * 2) = (m : Int) * 2 := by rw [IntKind.wrap_i64]; omega
  have w3 : IntKind.i64.wrap (4 * ((m : Int) * 2)) = 4 * ((m : Int) * 2) := by rw [IntKind.wrap_i64]; omega
  have w4 : IntKind.i64.wrap (8 + 4 * ((m : Int) * 2)) = 8 + 4 * ((m : Int) * 2) := by rw [IntKind.wrap_i64]; omega
  have w5 : IntKind.i64.wrap (4 * (m : Int)) = 4 * (m : Int) := by rw [IntKind.wrap_i64]; omega
  have w6 : IntKind.i64.wrap (8 + 4 * (m : Int)) = 8 + 4 * (m : Int) := by rw [IntKind.wrap_i64]; omega
  by_cases h0 : z = 0
  · subst h0
    have E : szI 0 m = 8 + 4 * ((m : Int) * 2) := by simp [szI]; omega
    rw [E]
    clear E
    go_enter Try.func89, Try.ntmps89
    go_wp2_with fail
    go_ret
    exact ⟨rfl, rfl⟩
  by_cases h43 : z = 43
  · subst h43
    have E : szI 43 m = 8 + 4 * ((m : Int) * 2) := by simp [szI]; omega
    rw [E]
    clear E
    go_enter Try.func89, Try.ntmps89
    go_wp2_with fail
    go_ret
    exact ⟨rfl, rfl⟩
  by_cases h60 : z = 60
  · subst h60
    have E : szI 60 m = 8 + 4 * ((m : Int) * 2) := by simp [szI]; omega
    rw [E]
    clear E
    go_enter Try.func89, Try.ntmps89
    go_wp2_with fail
    go_ret
    exact ⟨rfl, rfl⟩
  by_cases h51 : z = 51
  · subst h51
    have E : szI 51 m = 8 + 4 * (m : Int) := by simp [szI]
    rw [E]
    clear E
    go_enter Try.func89, Try.ntmps89
    go_wp2_with fail
    go_ret
    exact ⟨rfl, rfl⟩
  by_cases h44 : z = 44
  · subst h44
    have E : szI 44 m = 8 := by simp [szI]
    rw [E]
    clear E
    go_enter Try.func89, Try.ntmps89
    go_wp2_with fail
    go_ret
    exact ⟨rfl, rfl⟩
  have E : szI z m = 0 := by simp [szI, h0, h43, h60, h51, h44]
  rw [E]
  have b0 : (z == 0) = false := by simp [h0]
  have b1 : (z == 43) = false := by simp [h43]
  have b2 : (z == 60) = false := by simp [h60]
  have b3 : (z == 51) = false := by simp [h51]
  have b4 : (z == 44) = false := by simp [h44]
  clear E h0 h43 h60 h51 h44
  go_enter Try.func89, Try.ntmps89
  go_wp2_with fail
  go_ret
  exact ⟨rfl, rfl⟩
set_option maxHeartbeats 1000000 in
theorem isext_any (z : Int) (w : World) : Calls Try.prog 74 #[.int .i64 z] w fun e w' => e = .returned (.bool (extI z)) ∧ w = w' := by
  have h := size_any z 0 (by omega) w
  have hx := szI_ext z
  generalize extI z = b at *
  generalize szI z 0 = n at *
  have HS := Lib.hid h
  have HX := Lib.hid hx
  clear h hx
  go_enter Try.func74, Try.ntmps74
  go_wp2_with fail
  refine HS.out.mono ?_
  rintro e w1 ⟨rfl, rfl⟩
  go_wp2_with fail
  go_ret
  exact ⟨by rw [← HX.out]; rfl, rfl⟩
set_option maxHeartbeats 1000000 in
theorem within_any_9 (n lo hi : Int) (w : World) : Calls Try.prog 76 #[.int .i64 n, .int .i64 lo, .int .i64 hi] w fun e w' => e = .returned (.bool (inB n lo hi)) ∧ w = w' := by
  by_cases h1 : lo ≤ n
  · have d1 : decide (lo ≤ n) = true := decide_eq_true h1
    by_cases h2 : n ≤ hi
    · have e : inB n lo hi = true := decide_eq_true ⟨h1, h2⟩
      rw [e]
      clear e
      go_enter Try.func76, Try.ntmps76
      go_wp2
      go_ret
      exact ⟨rfl, rfl⟩
    · have e : inB n lo hi = false := decide_eq_false (fun h => h2 h.2)
      rw [e]
      clear e
      have b2 : decide (n ≤ hi) = false := decide_eq_false h2
      go_enter Try.func76, Try.ntmps76
      go_wp2
      go_ret
      exact ⟨rfl, rfl⟩
  · have e : inB n lo hi = false := decide_eq_false (fun h => h1 h.1)
    rw [e]
    clear e
    have b2 : decide (lo ≤ n) = false := decide_eq_false h1
    go_enter Try.func76, Try.ntmps76
    go_wp2
    go_ret
    exact ⟨rfl, rfl⟩
set_option maxHeartbeats 1000000 in
theorem rext_any (z : Int) (w : World) : Calls Try.prog 47 #[.int .i64 z] w fun e w' => e = .returned (.bool (extI z)) ∧ w = w' := by
  by_cases h0 : z = 0
  · subst h0
    rw [show extI 0 = true by decide]
    go_enter Try.func47, Try.ntmps47
    go_wp2_with fail
    go_ret
    exact ⟨rfl, rfl⟩
  by_cases h43 : z = 43
  · subst h43
    rw [show extI 43 = true by decide]
    go_enter Try.func47, Try.ntmps47
    go_wp2_with fail
    go_ret
    exact ⟨rfl, rfl⟩
  by_cases h60 : z = 60
  · subst h60
    rw [show extI 60 = true by decide]
    go_enter Try.func47, Try.ntmps47
    go_wp2_with fail
    go_ret
    exact ⟨rfl, rfl⟩
  by_cases h51 : z = 51
  · subst h51
    rw [show extI 51 = true by decide]
    go_enter Try.func47, Try.ntmps47
    go_wp2_with fail
    go_ret
    exact ⟨rfl, rfl⟩
  by_cases h44 : z = 44
  · subst h44
    rw [show extI 44 = true by decide]
    go_enter Try.func47, Try.ntmps47
    go_wp2_with fail
    go_ret
    exact ⟨rfl, rfl⟩
  have E : extI z = false := by simp [extI, h0, h43, h60, h51, h44]
  rw [E]
  have b0 : (z == 0) = false := by simp [h0]
  have b1 : (z == 43) = false := by simp [h43]
  have b2 : (z == 60) = false := by simp [h60]
  have b3 : (z == 51) = false := by simp [h51]
  have b4 : (z == 44) = false := by simp [h44]
  clear E h0 h43 h60 h51 h44
  go_enter Try.func47, Try.ntmps47
  go_wp2_with fail
  go_ret
  exact ⟨rfl, rfl⟩
set_option maxHeartbeats 1000000 in
theorem rsize_any {A : Option Addr} {len cap p at_ : Nat} {xs : List UInt8} (hx : extB p = true) (z y : Int) (hz : z = (p : Int)) (hy : y = (at_ : Int)) (hlen : len ≤ 1000000000) (h : at_ + 2 ≤ len) {w : World} {B : Nat} (hI : Rd w B A len xs) :
    Calls Try.prog 48 #[.int .i64 z, .slice A len cap, .int .i64 y] w fun e w' => e = .returned (.int .i64 ((szN p (batN xs (at_ + 1)) : Nat) : Int)) ∧ w = w' := by
  subst hz hy
  obtain ⟨b, off, rfl, _⟩ := hI.addr (by omega)
  have c1 := hI.cellD (k := at_ + 1) (by omega)
  have hm := batN_lt xs (at_ + 1)
  generalize batN xs (at_ + 1) = m at *
  have hw : IntKind.i64.wrap ((at_ : Int) + 1) = ((at_ + 1 : Nat) : Int) := by rw [IntKind.wrap_i64]; omega
  have l1 : ((at_ + 1 : Nat) : Int) < (len : Int) := by omega
  have w1 : IntKind.i64.wrap (m : Int) = (m : Int) := by rw [IntKind.wrap_i64]; omega
  have w5 : IntKind.i64.wrap (4 * (m : Int)) = 4 * (m : Int) := by rw [IntKind.wrap_i64]; omega
  have w6 : IntKind.i64.wrap (8 + 4 * (m : Int)) = 8 + 4 * (m : Int) := by rw [IntKind.wrap_i64]; omega
  have w7 : IntKind.i64.wrap (8 * (m : Int)) = 8 * (m : Int) := by rw [IntKind.wrap_i64]; omega
  have w8 : IntKind.i64.wrap (8 + 8 * (m : Int)) = 8 + 8 * (m : Int) := by rw [IntKind.wrap_i64]; omega
  rcases ext_cases hx with rfl | rfl | rfl | rfl | rfl
  · rw [show ((szN 0 m : Nat) : Int) = 8 + 8 * (m : Int) by simp [szN]]
    go_enter Try.func48, Try.ntmps48
    go_wp2_with fail
    go_ret
    exact ⟨rfl, rfl⟩
  · rw [show ((szN 43 m : Nat) : Int) = 8 + 8 * (m : Int) by simp [szN]]
    go_enter Try.func48, Try.ntmps48
    go_wp2_with fail
    go_ret
    exact ⟨rfl, rfl⟩
  · rw [show ((szN 60 m : Nat) : Int) = 8 + 8 * (m : Int) by simp [szN]]
    go_enter Try.func48, Try.ntmps48
    go_wp2_with fail
    go_ret
    exact ⟨rfl, rfl⟩
  · rw [show ((szN 51 m : Nat) : Int) = 8 + 4 * (m : Int) by simp [szN]]
    go_enter Try.func48, Try.ntmps48
    go_wp2_with fail
    go_ret
    exact ⟨rfl, rfl⟩
  · rw [show ((szN 44 m : Nat) : Int) = 8 by simp [szN]]
    go_enter Try.func48, Try.ntmps48
    go_wp2_with fail
    go_ret
    exact ⟨rfl, rfl⟩
end
section
open Go.RowKit Go.Lib
theorem zeroP_9 : #[Value.bool false, .int .u8 0, .int .u8 0, .int .u8 0, .int .u8 0, .int .u8 0, .int .u8 0, .int .u8 0, .int .u8 0, .int .u8 0, .int .u8 0, .int .u8 0, .int .u8 0, .int .u8 0, .int .u8 0, .int .u8 0, .int .u8 0] = (adL Ad.zero).toArray := by rfl
/-- An address of IPv6, all of its bytes 0. -/
def Ad.six0 : Ad := ⟨true, z16⟩
theorem ad16_splice {xs : List UInt8} (h : 16 ≤ xs.length) : splice (adL Ad.six0) 1 ((xs.take 16).map v8) = adL (ad16 xs) := by
  have hl : (xs.take 16).length = 16 := by rw [List.length_take, Nat.min_eq_left h]
  have e : ad16 xs = ⟨true, xs.take 16⟩ := rfl
  rw [e]
  generalize xs.take 16 = ys at *
  obtain ⟨a0, a1, a2, a3, a4, a5, a6, a7, a8, a9, a10, a11, a12, a13, a14, a15, rfl⟩ := sixteen hl
  rfl
set_option maxRecDepth 100000 in
set_option maxHeartbeats 2000000 in
theorem addr_any_9 {A : Option Addr} {len : Nat} {cap : Nat} {xs : List UInt8} (h4 : 16 ≤ len) {w : World} {B : Nat} (hBw : B ≤ w.heap.size) (hI : Rd w B A len xs) :
    Calls Try.prog 88 #[.slice A len cap] w fun e w' => e = .returned (adC (ad16 xs)) ∧ Below w.heap.size w w' := by
  have hxl : 16 ≤ xs.length := by rw [hI.len]; exact h4
  have HL := Lib.hid (ad16_len hxl)
  have HS := Lib.hid (ad16_splice hxl)
  obtain ⟨Z, hZ⟩ : ∃ Z : World, (w.alloc (.cells (adL Ad.zero).toArray 25)).alloc (.cells (adL Ad.zero).toArray 25) = Z := ⟨_, rfl⟩
  have b1 : Blk_9 Z 25 w.heap.size (adL Ad.zero) := by rw [← hZ]; exact (Blk_9.new w _ _).alloc _
  have b2 : Blk_9 Z 25 (w.heap.size + 1) (adL Ad.zero) := by
    rw [← hZ]
    have := Blk_9.new (w.alloc (.cells (adL Ad.zero).toArray 25)) 25 (adL Ad.zero)
    simpa using this
  have hB0 : Below w.heap.size w Z := by rw [← hZ]; exact ((Below.refl w.heap.size w).alloc (Nat.le_refl _) _).alloc (by simp) _
  have hzs : Z.heap.size = w.heap.size + 2 := by rw [← hZ]; simp
  have b3 := b2.setRow_ (adL Ad.six0)
  have b4 := b1.setRow_far (b := w.heap.size + 1) (by omega) (adL Ad.six0).toArray
  have b5 := below_setRow hB0 (Nat.le_succ w.heap.size) (adL Ad.six0).toArray
  have hr := ((hI.below (b5.mono hBw)).take (k := 16) h4)
  obtain ⟨Y, hY⟩ : ∃ Y, Z.setRow (w.heap.size + 1) (adL Ad.six0).toArray = Y := ⟨_, rfl⟩
  rw [hY] at b3 b4 b5 hr
  obtain ⟨ad, rfl, hcs⟩ := hr.cells (by omega)
  have HC := Lib.hid hcs
  have H16 : Hid (((xs.take 16).map v8).length = 16) := Lib.hid (by rw [List.length_map, hr.len])
  have HMN : Hid (Nat.min len 16 = 16) := Lib.hid (Nat.min_eq_right h4)
  rw [← zeroP_9] at hZ
  have HZ := Lib.hid hZ
  have HY := Lib.hid hY
  have HB1 := Lib.hid b4
  have HB2 := Lib.hid b3
  have HB0 := Lib.hid b5
  have HBZ := Lib.hid b2
  clear hZ hY b1 b2 b3 b4 b5 hB0 hr hcs hzs
  go_enter Try.func88, Try.ntmps88
  go_wp2_with (first
    | ((with_reducible show wpList _ _ _ _ _ _); refine wpList_buildTo rfl 25 _ rfl (some 4) rfl (adL Ad.six0).toArray (by kernel_rfl) ?_)
    | ((with_reducible show wpList _ _ _ _ _ _); rw [HZ.out]; refine wpList_storeR_9 rfl 25 (.tmp 3) (.tmp 4) rfl (w.heap.size + 1) (by rfl) (adL Ad.six0) (by rfl) _ HBZ.out rfl (sizeAdL rfl) (adL_one _) ?_; rw [HY.out])
    | ((with_reducible show wpList _ _ _ _ _ _); refine wpList_copy_splice rfl (.tmp 6) (.tmp 7) 22 22 rfl 5 Try.underlying22 size8 (some ⟨w.heap.size + 1, 1, none⟩) (some ad) 16 16 len cap (by rfl) (by rfl) (w.heap.size + 1) 1 (adL Ad.six0) 25 HB2.out ((xs.take 16).map v8) (by rw [H16.out]; exact HMN.out.symm) (fun h0 => ⟨rfl, ad, rfl, HC.out⟩) (by rw [H16.out]; decide) (oneCell8 _) (w.heap.size + 1) Y (Below.refl _ _) (Nat.le_refl _) ?_; intro w3 HG3 hB3; rw [H16.out]; rw [HS.out] at HG3; have L1 : Hid (Blk_9 w3 25 (w.heap.size + 1) (adL (ad16 xs))) := HG3; have R1 := Lib.hid (HB1.out.below (Nat.lt_succ_self _) hB3); have B3 := Lib.hid (HB0.out.trans (hB3.mono (Nat.le_succ _))); clear HG3 hB3)
    | ((with_reducible show wpList _ _ _ _ _ _); refine wpList_load_mid rfl 25 (.tmp 3) rfl (w.heap.size + 1) 0 (by rfl) (adL (ad16 xs)) _ L1.out.range Try.underlying25 rfl (sizeAdL HL.out) ?_)
    | ((with_reducible show wpList _ _ _ _ _ _); refine wpList_storeR_9 rfl 25 (.tmp 2) (.tmp 9) rfl w.heap.size (by rfl) (adL (ad16 xs)) (by rfl) _ R1.out (by rw [adL_len HL.out]; rfl) (sizeAdL HL.out) (adL_one _) ?_))
  refine bodyPost_ret (v := adC (ad16 xs)) (results_ad_9 rfl _ _ w.heap.size (by rfl) _ HL.out (R1.out.setRow_ _)) rfl ?_
  exact ⟨rfl, below_setRow B3.out (Nat.le_refl _) _⟩
set_option maxRecDepth 100000 in
set_option maxHeartbeats 2000000 in
theorem fault_any_9 (A : Option Addr) (len cap : Nat) (xs : List UInt8) (hlen : len ≤ 1000000) (hcap : len ≤ cap) (hcap2 : cap ≤ maxLen) (w : World) (hI : Rd w w.heap.size A len xs) :
    Calls Try.prog 72 #[.slice A len cap] w fun e w' => e = .returned (.int .i64 (faultN_9 xs : Nat)) ∧ Below w.heap.size w w' := by
  have HL := Lib.hid hI.len
  by_cases h40 : 40 ≤ len
  · have h40' : ¬ (len : Int) < 40 := by omega
    have HT := Lib.hid (total_any (A := A) (by omega) hcap hcap2 h40 hI)
    have F1 := Lib.hid (fun (h : batN xs 0 / 16 ≠ 6) => fault_form_9 (xs := xs) (by rw [HL.out]; exact h40) h)
    have F2 := Lib.hid (fun h1 (h3 : len < totN_9 xs) => fault_more_9 (xs := xs) (by rw [HL.out]; exact h40) h1 (by rw [HL.out]; exact h3))
    have F3 := Lib.hid (fun h1 (h3 : totN_9 xs ≤ len) => fault_no_9 (xs := xs) (by rw [HL.out]; exact h40) h1 (by rw [HL.out]; exact h3))
    obtain ⟨b, off, rfl, _⟩ := hI.addr (by omega)
    have c0 := hI.cellD (k := 0) (by omega)
    rw [Nat.add_zero] at c0
    have hx := batN_lt xs 0
    have htl := totN_lt xs
    generalize batN xs 0 = x at *
    generalize totN_9 xs = T at *
    generalize faultN_9 xs = F at *
    have hwx : IntKind.u8.wrap ((x : Int) / 16) = (x : Int) / 16 := by rw [IntKind.wrap_u8]; omega
    clear hI
    by_cases hv : x / 16 = 6
    · have v1 : ((x : Int) / 16 != 6) = false := by simp; omega
      have hv' := Lib.hid hv
      clear hv
      go_enter Try.func72, Try.ntmps72
      go_wp2_with fail
      refine HT.out.mono ?_
      rintro e w1 ⟨rfl, hb1⟩
      have HB1 := Lib.hid hb1
      clear hb1 c0
      by_cases h5 : len < T
      · have h5' : (len : Int) < (T : Int) := by omega
        have hF := F2.out hv'.out h5
        subst hF
        go_wp2_with fail
        go_ret
        exact ⟨rfl, HB1.out⟩
      · have h5' : ¬ (len : Int) < (T : Int) := by omega
        have hF := F3.out hv'.out (by omega)
        subst hF
        go_wp2_with fail
        go_ret
        exact ⟨rfl, HB1.out⟩
    · have v1 : ((x : Int) / 16 != 6) = true := by simp; omega
      have hF := F1.out hv
      subst hF
      clear hv
      go_enter Try.func72, Try.ntmps72
      go_wp2_with fail
      go_ret
      exact ⟨rfl, Below.refl _ _⟩
  · have h40' : (len : Int) < 40 := by omega
    have hF : faultN_9 xs = 2 := fault_short_9 (by rw [HL.out]; omega)
    rw [hF]
    clear hF
    go_enter Try.func72, Try.ntmps72
    go_wp2_with fail
    go_ret
    exact ⟨rfl, Below.refl _ _⟩
end
section
open Go.RowKit Go.Lib
theorem zeroF_9 : #[Value.int .i64 0, .int .i64 0, .int .i64 0, .bool false, .int .i64 0, .int .i64 0, .bool false, .int .u8 0, .int .u8 0, .int .u8 0, .int .u8 0, .int .u8 0, .int .u8 0, .int .u8 0, .int .u8 0, .int .u8 0, .int .u8 0, .int .u8 0, .int .u8 0, .int .u8 0, .int .u8 0, .int .u8 0, .int .u8 0, .bool false, .int .u8 0, .int .u8 0, .int .u8 0, .int .u8 0, .int .u8 0, .int .u8 0, .int .u8 0, .int .u8 0, .int .u8 0, .int .u8 0, .int .u8 0, .int .u8 0, .int .u8 0, .int .u8 0, .int .u8 0, .int .u8 0] = (frL_9 Fr_9.zero).toArray := by rfl
theorem bit_hi (w : Nat) (h : w < 65536) (i : Nat) (hi : 16 ≤ i) : w.testBit i = false := Nat.testBit_lt_two_pow (Nat.lt_of_lt_of_le h (show 65536 ≤ 2 ^ i from (show 65536 = 2 ^ 16 by decide) ▸ Nat.pow_le_pow_right (by decide) hi))
theorem mask_six (w : Nat) (h : w < 65536) : (w &&& 18446744073709551609) = 0 ↔ w / 8 = 0 ∧ w % 2 = 0 := by
  have hb : ∀ i, (w &&& 18446744073709551609).testBit i = (w.testBit i && (decide (i < 64) && !(6 : Nat).testBit i)) := fun i => by
    rw [Nat.testBit_and, show (18446744073709551609 : Nat) = 2 ^ 64 - (6 + 1) by decide, Nat.testBit_two_pow_sub_succ (by decide)]
  constructor
  · intro h0
    have hz : ∀ i, (w.testBit i && (decide (i < 64) && !(6 : Nat).testBit i)) = false := fun i => by rw [← hb, h0, Nat.zero_testBit]
    refine ⟨?_, ?_⟩
    · apply Nat.eq_of_testBit_eq
      intro i
      rw [Nat.zero_testBit, show (8 : Nat) = 2 ^ 3 from rfl, Nat.testBit_div_two_pow]
      by_cases hi : i + 3 < 64
      · have := hz (i + 3)
        have h6 : (6 : Nat).testBit (i + 3) = false := Nat.testBit_lt_two_pow (Nat.lt_of_lt_of_le (show 6 < 2 ^ 3 by decide) (Nat.pow_le_pow_right (by decide) (by omega)))
        rw [h6, decide_eq_true hi] at this
        simpa using this
      · exact bit_hi w h _ (by omega)
    · have := hz 0
      rw [Nat.testBit_zero] at this
      simp at this
      omega
  · rintro ⟨h1, h2⟩
    have : w = 0 ∨ w = 2 ∨ w = 4 ∨ w = 6 := by omega
    rcases this with rfl | rfl | rfl | rfl <;> decide
theorem not_six (w : Nat) (h : w < 65536) : bits .andNot .i64 (w : Int) 6 = ((w &&& 18446744073709551609 : Nat) : Int) := by
  have hx : w &&& 18446744073709551609 ≤ w := Nat.and_le_left
  show IntKind.i64.wrap ((BitVec.ofInt 64 (w : Int) &&& ~~~BitVec.ofInt 64 ((6 : Nat) : Int)).toNat : Int) = _
  rw [BitVec.toNat_and, BitVec.toNat_not, ofInt_u64 w (by omega), ofInt_u64 6 (by omega)]
  have e : 2 ^ 64 - 1 - 6 = 18446744073709551609 := by decide
  rw [e]
  exact wrap_i64_small _ (by omega)
theorem frag_bits (w : Nat) (h : w < 65536) : (bits .andNot .i64 (w : Int) 6 != 0) = fragB 44 w := by
  rw [not_six w h]
  have := mask_six w h
  apply Bool.eq_iff_iff.2
  simp [fragB]
  omega
theorem hd0_eq (xs : List UInt8) : hdAt xs (wk0 xs) = ⟨40, (totN_9 xs : Nat), (batN xs 7 : Nat), false, 0, (batN xs 6 : Nat), adOf_9 xs 8, adOf_9 xs 24⟩ := rfl
set_option maxRecDepth 100000 in
set_option maxHeartbeats 4000000 in
theorem header_any (A : Option Addr) (len cap : Nat) (xs : List UInt8) (h40 : 40 ≤ len) (hlen : len ≤ 1000000) (hcap : len ≤ cap) (hcap2 : cap ≤ maxLen) (w : World) (hI : Rd w w.heap.size A len xs) :
    Calls Try.prog 73 #[.slice A len cap] w fun e w' => e = .returned (frC_9 (hdAt xs (wk0 xs))) ∧ Below w.heap.size w w' := by
  have HL := Lib.hid hI.len
  have hOK := hdAt_ok xs (wk0 xs) (by rw [HL.out]; exact h40)
  obtain ⟨Z, hZ⟩ : ∃ Z : World, w.alloc (.cells (frL_9 Fr_9.zero).toArray 65) = Z := ⟨_, rfl⟩
  have hR0 : Blk_9 Z 65 w.heap.size (frL_9 Fr_9.zero) := by rw [← hZ]; exact Blk_9.new w _ _
  have hB0 : Below w.heap.size w Z := by rw [← hZ]; exact (Below.refl w.heap.size w).alloc (Nat.le_refl _) _
  rw [← zeroF_9] at hZ
  have HZ := Lib.hid hZ
  have HI1 := Lib.hid (hI.below hB0)
  have HR1 := Lib.hid hR0
  have HB1 := Lib.hid hB0
  clear hZ hI hR0 hB0
  obtain ⟨b, off, rfl, _⟩ := HI1.out.addr (by omega)
  have hBU := built_at_9 40 (totN_9 xs : Nat) (batN xs 7 : Nat) (batN xs 6 : Nat) (adOf_9 xs 8) (adOf_9 xs 24) hOK.s hOK.d
  rw [← hd0_eq] at hBU
  have hRd := fun W (hW : Below w.heap.size Z W) => (HI1.out.below hW).more (Nat.le_trans HB1.out.size hW.size)
  have HT := Lib.hid (fun W (hW : Below w.heap.size Z W) => total_any (cap := cap) (by omega) hcap hcap2 h40 (hRd W hW))
  have HA8 := Lib.hid (fun W (hW : Below w.heap.size Z W) => addr_any_9 (A := cutA (some ⟨b, off, none⟩) cap 8) (len := len - 8) (cap := cap - 8) (xs := xs.drop 8) (by omega) (Nat.le_refl _) ((hRd W hW).from (l := 8) (by omega) cap hcap))
  have HA24 := Lib.hid (fun W (hW : Below w.heap.size Z W) => addr_any_9 (A := cutA (some ⟨b, off, none⟩) cap 24) (len := len - 24) (cap := cap - 24) (xs := xs.drop 24) (by omega) (Nat.le_refl _) ((hRd W hW).from (l := 24) (by omega) cap hcap))
  have C7 := Lib.hid (fun W (hW : Below w.heap.size Z W) => (hRd W hW).cellD (k := 7) (by omega))
  have C6 := Lib.hid (fun W (hW : Below w.heap.size Z W) => (hRd W hW).cellD (k := 6) (by omega))
  have hc8 : ∀ W, (Instr.slice 22 (.slice (some ⟨b, off, none⟩) len cap) (some (.int .i64 8)) none none).run Try.prog W = .ok (.slice (cutA (some ⟨b, off, none⟩) cap 8) (len - 8) (cap - 8)) W := fun W => run_from8 _ len cap 8 (by omega) W
  have hc24 : ∀ W, (Instr.slice 22 (.slice (some ⟨b, off, none⟩) len cap) (some (.int .i64 24)) none none).run Try.prog W = .ok (.slice (cutA (some ⟨b, off, none⟩) cap 24) (len - 24) (cap - 24)) W := fun W => run_from8 _ len cap 24 (by omega) W
  have l6 : (6 : Int) < (len : Int) := by omega
  have l7 : (7 : Int) < (len : Int) := by omega
  have x6l := batN_lt xs 6
  have x7l := batN_lt xs 7
  have e8 : ad16 (xs.drop 8) = adOf_9 xs 8 := rfl
  have e24 : ad16 (xs.drop 24) = adOf_9 xs 24 := rfl
  rw [e8] at HA8
  rw [e24] at HA24
  generalize hdAt xs (wk0 xs) = f at *
  generalize adOf_9 xs 8 = a8 at *
  generalize adOf_9 xs 24 = a24 at *
  generalize totN_9 xs = T at *
  generalize batN xs 6 = x6 at *
  generalize batN xs 7 = x7 at *
  have w6 : IntKind.i64.wrap (x6 : Int) = (x6 : Int) := by rw [IntKind.wrap_i64]; omega
  have w7 : IntKind.i64.wrap (x7 : Int) = (x7 : Int) := by rw [IntKind.wrap_i64]; omega
  have HBU := Lib.hid hBU
  have HOK := Lib.hid hOK
  clear hRd e8 e24 hBU hOK
  go_enter Try.func73, Try.ntmps73
  go_wp2_with fail
  rw [HZ.out]
  refine wp_region_held_drew (S := fun W => Below w.heap.size Z W) (by kernel_rfl) (Below.refl _ _).drew (fun hHeld => ?_)
  refine tk 0 3 (.slice (some ⟨b, off, none⟩) len cap) rfl hHeld ?_
  simp only [Act.put, sA, sZ, sS]
  refine tk 2 5 (.slice (some ⟨b, off, none⟩) len cap) rfl hHeld ?_
  simp only [Act.put, sA, sZ, sS]
  refine tk 3 6 (.pointer (some ⟨b, off + 7, none⟩)) rfl hHeld ?_
  simp only [Act.put, sA, sZ, sS]
  refine tkY 4 7 (.int .u8 (x7 : Int)) rfl (Or.inl ⟨by rfl, fun W hW => by have hc := C7.out W hW; go_simp⟩) hHeld ?_
  simp only [Act.put, sA, sZ, sS]
  refine tk 5 8 (.int .i64 (x7 : Int)) rfl hHeld ?_
  simp only [Act.put, sA, sZ, sS]
  refine tk 6 9 (.slice (some ⟨b, off, none⟩) len cap) rfl hHeld ?_
  simp only [Act.put, sA, sZ, sS]
  refine tk 7 10 (.pointer (some ⟨b, off + 6, none⟩)) rfl hHeld ?_
  simp only [Act.put, sA, sZ, sS]
  refine tkY 8 11 (.int .u8 (x6 : Int)) rfl (Or.inl ⟨by rfl, fun W hW => by have hc := C6.out W hW; go_simp⟩) hHeld ?_
  simp only [Act.put, sA, sZ, sS]
  refine tk 9 12 (.int .i64 (x6 : Int)) rfl hHeld ?_
  simp only [Act.put, sA, sZ, sS]
  refine tk 10 13 (.slice (some ⟨b, off, none⟩) len cap) rfl hHeld ?_
  simp only [Act.put, sA, sZ, sS]
  refine tk 11 14 (.slice (cutA (some ⟨b, off, none⟩) cap 8) (len - 8) (cap - 8)) rfl hHeld ?_
  simp only [Act.put, sA, sZ, sS]
  refine tk 13 16 (.slice (some ⟨b, off, none⟩) len cap) rfl hHeld ?_
  simp only [Act.put, sA, sZ, sS]
  refine tk 14 17 (.slice (cutA (some ⟨b, off, none⟩) cap 24) (len - 24) (cap - 24)) rfl hHeld ?_
  simp only [Act.put, sA, sZ, sS]
  have HR2 : Hid (Blk_9 Z.drew 65 w.heap.size (frL_9 Fr_9.zero)) := Lib.hid HR1.out
  refine wpAnyH_ready (rs := [1]) (by kernel_rfl) (by simp) (AllReadyH.cons (o := ⟨some 4, _, _, _, _, _⟩) rfl (fun K hK => ?_) AllReadyH.nil)
  go_simp
  refine (HT.out _ hHeld).mono ?_
  rintro e w3 ⟨rfl, hb3⟩
  have HR3 := Lib.hid (HR2.out.below HR2.out.lt hb3)
  refine hK.out _ _ (hHeld.trans (hb3.mono (Nat.le_trans HB1.out.size hHeld.size))) (fun hHeld => ?_)
  clear hK K hb3 HR2
  refine wpAnyH_ready (rs := [12]) (by kernel_rfl) (by simp) (AllReadyH.cons (o := ⟨some 15, _, _, _, _, _⟩) rfl (fun K hK => ?_) AllReadyH.nil)
  go_simp
  refine (HA8.out _ hHeld).mono ?_
  rintro e w4 ⟨rfl, hb4⟩
  have HR4 := Lib.hid (HR3.out.below HR3.out.lt hb4)
  refine hK.out _ _ (hHeld.trans (hb4.mono (Nat.le_trans HB1.out.size hHeld.size))) (fun hHeld => ?_)
  clear hK K hb4 HR3
  refine wpAnyH_ready (rs := [15]) (by kernel_rfl) (by simp) (AllReadyH.cons (o := ⟨some 18, _, _, _, _, _⟩) rfl (fun K hK => ?_) AllReadyH.nil)
  go_simp
  refine (HA24.out _ hHeld).mono ?_
  rintro e w5 ⟨rfl, hb5⟩
  have HR5 := Lib.hid (HR4.out.below HR4.out.lt hb5)
  refine hK.out _ _ (hHeld.trans (hb5.mono (Nat.le_trans HB1.out.size hHeld.size))) (fun hHeld => ?_)
  clear hK K hb5 HR4
  refine tkY 16 19 (.agg (frL_9 f).toArray) rfl (yields_build (by rfl) 65 _ rfl _ (by kernel_rfl) _ HBU.out) hHeld ?_
  simp only [Act.put, sA, sZ, sS]
  refine wpAnyH_ready (rs := [17]) (by kernel_rfl) (by simp) (AllReadyH.cons (o := ⟨none, _, _, _, _, _⟩) rfl (fun K hK => ?_) AllReadyH.nil)
  refine step_storeR_9 rfl 65 _ _ rfl w.heap.size (by rfl) (frL_9 f) (by rfl) _ HR5.out (by rw [frL_len_9 HOK.out]; rfl) (sizeFrL_9 HOK.out) (frL_one_9 _) ?_
  have hR9 := Lib.hid (HR5.out.setRow_ (frL_9 f))
  refine hK.out _ _ (below_setRow hHeld (Nat.le_refl _) _) (fun hHeld => ?_)
  clear hK K
  refine wpAnyH_done (by kernel_rfl) ?_ _
  go_wp2_with fail
  refine bodyPost_ret (v := frC_9 f) (results_fr1_9 rfl _ _ w.heap.size (by rfl) _ HOK.out hR9.out) rfl ?_
  exact ⟨rfl, HB1.out.trans hHeld⟩
end
section
open Go.RowKit Go.Lib
/-- A cell of a block known whole is stored anew: laws for the walk; the world behind it is a letter. -/
theorem wpList_storeI_9 {w : World} {ops : Array Oper} {rest : List Oper} {op : Oper} {a : Act} {Q : Exit → Act → World → Prop} (hgd : op.guard = none) (x y : Operand) (ho : op.op = .store 3 x y)
    (g i : Nat) (hx : a.eval x = .pointer (some ⟨g, i, none⟩)) (n : Int) (hy : a.eval y = .int .i64 n) (U : TypeId) (cs : List Value) (hb : Blk_9 w U g cs) (m : Int) (hi : cs[i]? = some (.int .i64 m))
    (h : ∀ w', Blk_9 w' U g (cs.set i (.int .i64 n)) → (∀ k, k ≠ g → w'.heap[k]? = w.heap[k]?) → Below g w w' → wpList Try.prog ops Q rest (a.put op.dst undef) w') : wpList Try.prog ops Q (op :: rest) a w := by
  refine wpList_plain hgd fun K hK => ?_
  have hc := hb.cell hi
  have hf := hb.frozen i
  have hk := h _ (hb.set i (.int .i64 n)) (fun k hkg => Below.heap_setCell w ⟨g, i, none⟩ _ k hkg) ((Below.refl g w).setCell (p := ⟨g, i, none⟩) (Nat.le_refl _) _)
  unfold Oper.wp execOp
  simp only [ho, hx, hy]
  clear h
  go_simp
  exact hK _ _ hk
theorem wpList_storeB {w : World} {ops : Array Oper} {rest : List Oper} {op : Oper} {a : Act} {Q : Exit → Act → World → Prop} (hgd : op.guard = none) (x y : Operand) (ho : op.op = .store 4 x y)
    (g i : Nat) (hx : a.eval x = .pointer (some ⟨g, i, none⟩)) (n : Bool) (hy : a.eval y = .bool n) (U : TypeId) (cs : List Value) (hb : Blk_9 w U g cs) (m : Bool) (hi : cs[i]? = some (.bool m))
    (h : ∀ w', Blk_9 w' U g (cs.set i (.bool n)) → (∀ k, k ≠ g → w'.heap[k]? = w.heap[k]?) → Below g w w' → wpList Try.prog ops Q rest (a.put op.dst undef) w') : wpList Try.prog ops Q (op :: rest) a w := by
  refine wpList_plain hgd fun K hK => ?_
  have hc := hb.cell hi
  have hf := hb.frozen i
  have hk := h _ (hb.set i (.bool n)) (fun k hkg => Below.heap_setCell w ⟨g, i, none⟩ _ k hkg) ((Below.refl g w).setCell (p := ⟨g, i, none⟩) (Nat.le_refl _) _)
  unfold Oper.wp execOp
  simp only [ho, hx, hy]
  clear h
  go_simp
  exact hK _ _ hk
/-- What passed answers: the error; the header. -/
def passN (e p : Nat) (ys : List UInt8) : Nat := if e = 8 then 4 else if ys.length < 8 then 2 else if ys.length < szN p (batN ys 1) then 2 else 0
def passF (f : Fr_9) (hd e p : Nat) (ys : List UInt8) : Fr_9 := if passN e p ys = 0 then ⟨((hd + szN p (batN ys 1) : Nat) : Int), f.total, f.hop, fragB p (wat ys 2), ((e + 1 : Nat) : Int), (batN ys 0 : Nat), f.s, f.d⟩ else Fr_9.zero
def ReadGave_9 (w : World) (f : Fr_9) (k : Nat) (e : Ending) (w' : World) : Prop := e = .returned (.tuple #[frC_9 f, .int .i64 (k : Int)]) ∧ Below w.heap.size w w'
theorem pass_ok (f : Fr_9) (hok : f.Ok) (hd e p : Nat) (ys : List UInt8) : (passF f hd e p ys).Ok := by
  unfold passF
  split
  · exact ⟨hok.s, hok.d⟩
  · exact Fr_9.ok_zero
set_option maxRecDepth 100000 in
set_option maxHeartbeats 4000000 in
theorem passed_any {f : Fr_9} (hok : f.Ok) {hd e p : Nat} (h0 : f.head = (hd : Int)) (h4 : f.exts = (e : Int)) (h5 : f.proto = (p : Int)) (hx : extB p = true) (hhd : hd ≤ 100000) (he : e ≤ 8)
    (A : Option Addr) (len cap : Nat) (ys : List UInt8) (hlen : len ≤ 1000000) (hcap : len ≤ cap) (hcap2 : cap ≤ maxLen) (w : World) (hI : Rd w w.heap.size A len ys) :
    Calls Try.prog 75 #[frC_9 f, .slice A len cap] w (ReadGave_9 w (passF f hd e p ys) (passN e p ys)) := by
  have HL := Lib.hid hI.len
  obtain ⟨Z, hZ⟩ : ∃ Z : World, (w.alloc (.cells (frL_9 f).toArray 65)).alloc (.cells (frL_9 Fr_9.zero).toArray 65) = Z := ⟨_, rfl⟩
  have b1 : Blk_9 Z 65 w.heap.size (frL_9 f) := by rw [← hZ]; exact (Blk_9.new w _ _).alloc _
  have b2 : Blk_9 Z 65 (w.heap.size + 1) (frL_9 Fr_9.zero) := by
    rw [← hZ]
    have := Blk_9.new (w.alloc (.cells (frL_9 f).toArray 65)) 65 (frL_9 Fr_9.zero)
    simpa using this
  have hB0 : Below w.heap.size w Z := by rw [← hZ]; exact ((Below.refl w.heap.size w).alloc (Nat.le_refl _) _).alloc (by simp) _
  have hzs : Z.heap.size = w.heap.size + 2 := by rw [← hZ]; simp
  have k4 := b1.cell (i := 4) (v := .int .i64 f.exts) rfl
  rw [h4] at k4
  rw [← zeroF_9] at hZ
  rw [← hZ] at k4
  have HI := Lib.hid (hI.below hB0)
  have HZ := Lib.hid hZ
  have HB1 := Lib.hid b1
  have HB2 := Lib.hid b2
  have HB0 := Lib.hid hB0
  have HZS := Lib.hid hzs
  have HZO := Lib.hid Fr_9.ok_zero
  have HOK := Lib.hid hok
  have H0 := Lib.hid h0
  have H4 := Lib.hid h4
  have H5 := Lib.hid h5
  clear hZ b1 b2 hB0 hzs hok hI h0 h4 h5
  unfold frC_9
  by_cases e8 : e = 8
  · have E1 : passN e p ys = 4 := by unfold passN; rw [if_pos e8]
    have E2 : passF f hd e p ys = Fr_9.zero := by unfold passF; rw [if_neg (by rw [E1]; decide)]
    rw [E1, E2]
    have q8 : ((e : Int) == 8) = true := by simp; omega
    clear E1 E2
    go_enter Try.func75, Try.ntmps75
    go_wp2_with (first
      | ((with_reducible show wpList _ _ _ _ _ _); refine wpList_buildTo rfl 65 _ rfl (some 10) rfl (frL_9 Fr_9.zero).toArray (by kernel_rfl) ?_)
      | ((with_reducible show wpList _ _ _ _ _ _); rw [HZ.out]; refine wpList_storeR_9 rfl 65 (.tmp 4) (.tmp 10) rfl (w.heap.size + 1) (by rfl) (frL_9 Fr_9.zero) (by rfl) _ HB2.out rfl (sizeFrL_9 HZO.out) (frL_one_9 _) ?_))
    refine bodyPost_ret (v := .tuple #[frC_9 Fr_9.zero, .int .i64 4]) (results_fr_9 rfl _ _ (w.heap.size + 1) (by rfl) _ HZO.out (HB2.out.setRow_ _) _ (by rfl)) rfl ?_
    exact ⟨rfl, below_setRow HB0.out (Nat.le_succ _) _⟩
  have q8 : ((e : Int) == 8) = false := by simp; omega
  have E0 := Lib.hid e8
  clear e8
  by_cases l8 : len < 8
  · have E1 : passN e p ys = 2 := by unfold passN; rw [if_neg E0.out, if_pos (by rw [HL.out]; exact l8)]
    have E2 : passF f hd e p ys = Fr_9.zero := by unfold passF; rw [if_neg (by rw [E1]; decide)]
    rw [E1, E2]
    have l8' : (len : Int) < 8 := by omega
    clear E1 E2
    go_enter Try.func75, Try.ntmps75
    go_wp2_with (first
      | ((with_reducible show wpList _ _ _ _ _ _); refine wpList_buildTo rfl 65 _ rfl (some 14) rfl (frL_9 Fr_9.zero).toArray (by kernel_rfl) ?_)
      | ((with_reducible show wpList _ _ _ _ _ _); rw [HZ.out]; refine wpList_storeR_9 rfl 65 (.tmp 4) (.tmp 14) rfl (w.heap.size + 1) (by rfl) (frL_9 Fr_9.zero) (by rfl) _ HB2.out rfl (sizeFrL_9 HZO.out) (frL_one_9 _) ?_))
    refine bodyPost_ret (v := .tuple #[frC_9 Fr_9.zero, .int .i64 2]) (results_fr_9 rfl _ _ (w.heap.size + 1) (by rfl) _ HZO.out (HB2.out.setRow_ _) _ (by rfl)) rfl ?_
    exact ⟨rfl, below_setRow HB0.out (Nat.le_succ _) _⟩
  have l8' : ¬ (len : Int) < 8 := by omega
  obtain ⟨b, off, rfl, hbw⟩ := HI.out.addr (by omega)
  have S0 := Lib.hid (szI_nat hx (batN ys 1))
  have m1l := batN_lt ys 1
  have szl := szN_le p (batN ys 1) m1l
  have PN := Lib.hid (show passN e p ys = if len < szN p (batN ys 1) then 2 else 0 by unfold passN; rw [if_neg E0.out, if_neg (by rw [HL.out]; exact l8), HL.out])
  have PF := Lib.hid (show passF f hd e p ys = if passN e p ys = 0 then ⟨((hd + szN p (batN ys 1) : Nat) : Int), f.total, f.hop, fragB p (wat ys 2), ((e + 1 : Nat) : Int), (batN ys 0 : Nat), f.s, f.d⟩ else Fr_9.zero from rfl)
  have HSZ := Lib.hid (fun W => size_any (p : Int) (batN ys 1) m1l W)
  rw [S0.out] at HSZ
  generalize passN e p ys = pn at *
  generalize passF f hd e p ys = pf at *
  generalize szN p (batN ys 1) = sz at *
  have l1 : (1 : Int) < (len : Int) := by omega
  have K5 := Lib.hid (fun W (hW : Below Z.heap.size Z W) => by have := (HB1.out.below HB1.out.lt hW).cell (i := 5) (v := .int .i64 f.proto) rfl; rw [H5.out] at this; exact this)
  have C1 := Lib.hid (fun W (hW : Below Z.heap.size Z W) => (HI.out.below (hW.mono HB0.out.size)).cellD (k := 1) (by omega))
  generalize batN ys 1 = m1 at *
  have w1 : IntKind.i64.wrap (m1 : Int) = (m1 : Int) := by rw [IntKind.wrap_i64]; omega
  obtain ⟨Y, hY⟩ : ∃ Y, Z.drew = Y := ⟨_, rfl⟩
  have HYQ : Hid (Blk_9 Y 65 w.heap.size (frL_9 f)) := by rw [← hY]; exact Lib.hid HB1.out.drew
  have HYR : Hid (Blk_9 Y 65 (w.heap.size + 1) (frL_9 Fr_9.zero)) := by rw [← hY]; exact Lib.hid HB2.out.drew
  have HYB : Hid (Below w.heap.size w Y) := by rw [← hY]; exact Lib.hid HB0.out.drew
  have HYI : Hid (Rd Y w.heap.size (some ⟨b, off, none⟩) len ys) := by rw [← hY]; exact Lib.hid HI.out.drew
  have HY := Lib.hid hY
  clear hY S0 m1l
  by_cases hl : len < sz
  · have E1 : pn = 2 := by rw [PN.out, if_pos hl]
    have E2 : pf = Fr_9.zero := by rw [PF.out, if_neg (by rw [E1]; decide)]
    subst E1 E2
    have hl' : (len : Int) < (sz : Int) := by omega
    clear PN PF hl
    go_enter Try.func75, Try.ntmps75
    go_wp2_with fail
    rw [HZ.out]
    refine wp_region_held_drew (S := fun W => Below Z.heap.size Z W) (by kernel_rfl) (Below.refl _ _).drew (fun hHeld => ?_)
    refine tk 0 15 (.pointer (some ⟨w.heap.size, 5, none⟩)) rfl hHeld ?_
    simp only [Act.put, sA, sZ, sS]
    refine tkY 1 16 (.int .i64 (p : Int)) rfl (Or.inl ⟨by rfl, fun W hW => by have hc := K5.out W hW; go_simp⟩) hHeld ?_
    simp only [Act.put, sA, sZ, sS]
    refine tk 2 17 (.slice (some ⟨b, off, none⟩) len cap) rfl hHeld ?_
    simp only [Act.put, sA, sZ, sS]
    refine tk 3 18 (.pointer (some ⟨b, off + 1, none⟩)) rfl hHeld ?_
    simp only [Act.put, sA, sZ, sS]
    refine tkY 4 19 (.int .u8 (m1 : Int)) rfl (Or.inl ⟨by rfl, fun W hW => by have hc := C1.out W hW; go_simp⟩) hHeld ?_
    simp only [Act.put, sA, sZ, sS]
    refine tk 5 20 (.int .i64 (m1 : Int)) rfl hHeld ?_
    simp only [Act.put, sA, sZ, sS]
    refine wpAnyH_ready (rs := [6]) (by kernel_rfl) (by simp) (AllReadyH.cons (o := ⟨some 21, _, _, _, _, _⟩) rfl (fun K hK => ?_) AllReadyH.nil)
    go_simp
    refine (HSZ.out _).mono ?_
    rintro e3 w3 ⟨rfl, rfl⟩
    refine hK.out _ _ hHeld (fun hHeld => ?_)
    clear hK K
    refine tk 7 6 (.int .i64 (sz : Int)) rfl hHeld ?_
    simp only [Act.put, sA, sZ, sS]
    refine wpAnyH_done (by kernel_rfl) ?_ _
    clear hHeld
    rw [HY.out]
    go_wp2_with (first
      | ((with_reducible show wpList _ _ _ _ _ _); refine wpList_buildTo rfl 65 _ rfl (some 26) rfl (frL_9 Fr_9.zero).toArray (by kernel_rfl) ?_)
      | ((with_reducible show wpList _ _ _ _ _ _); refine wpList_storeR_9 rfl 65 (.tmp 4) (.tmp 26) rfl (w.heap.size + 1) (by rfl) (frL_9 Fr_9.zero) (by rfl) _ HYR.out rfl (sizeFrL_9 HZO.out) (frL_one_9 _) ?_))
    refine bodyPost_ret (v := .tuple #[frC_9 Fr_9.zero, .int .i64 2]) (results_fr_9 rfl _ _ (w.heap.size + 1) (by rfl) _ HZO.out (HYR.out.setRow_ _) _ (by rfl)) rfl ?_
    exact ⟨rfl, below_setRow HYB.out (Nat.le_succ _) _⟩
  have E1 : pn = 0 := by rw [PN.out, if_neg hl]
  have E2 : pf = ⟨((hd + sz : Nat) : Int), f.total, f.hop, fragB p (wat ys 2), ((e + 1 : Nat) : Int), (batN ys 0 : Nat), f.s, f.d⟩ := by rw [PF.out, if_pos E1]
  have HFO := Lib.hid (show pf.Ok by rw [E2]; exact ⟨HOK.out.s, HOK.out.d⟩)
  subst E1
  have hl' : ¬ (len : Int) < (sz : Int) := by omega
  have l0 : (0 : Int) < (len : Int) := by omega
  have hw0 : IntKind.i64.wrap ((hd : Int) + (sz : Int)) = ((hd + sz : Nat) : Int) := by rw [IntKind.wrap_i64]; omega
  have hw1 : IntKind.i64.wrap ((e : Int) + 1) = ((e + 1 : Nat) : Int) := by rw [IntKind.wrap_i64]; omega
  have HNU := Lib.hid (num_any_9 (p := 2) 2 rfl (by omega) hcap hcap2 (by omega) (HYI.out.more HYB.out.size))
  have C0 := Lib.hid (fun W (hW : Below w.heap.size Y W) => (HYI.out.below hW).cellD (k := 0) (by omega))
  have hwl := wat_lt ys 2
  have hfb := fun (h : p = 44) => h ▸ frag_bits (wat ys 2) hwl
  have hfn : p ≠ 44 → fragB p (wat ys 2) = false := fun h => by simp [fragB, h]
  have hb0l := batN_lt ys 0
  generalize fragB p (wat ys 2) = fb at *
  generalize wat ys 2 = w2 at *
  generalize batN ys 0 = x0 at *
  have hwx : IntKind.i64.wrap (x0 : Int) = (x0 : Int) := by rw [IntKind.wrap_i64]; omega
  have y0 := HYQ.out.cell (i := 0) (v := .int .i64 f.head) rfl
  rw [H0.out] at y0
  have y5 := HYQ.out.cell (i := 5) (v := .int .i64 f.proto) rfl
  rw [H5.out] at y5
  have HPF := Lib.hid E2
  have HFB := Lib.hid hfb
  clear PN PF hl hfb E2 y0
  by_cases p44 : p = 44
  · have Q44 : Hid (((p : Int) == 44) = true) := Lib.hid (by simp; omega)
    have HFB2 := Lib.hid (HFB.out p44)
    clear HFB hfn p44
    go_enter Try.func75, Try.ntmps75
    go_wp2_with fail
    rw [HZ.out]
    refine wp_region_held_drew (S := fun W => Below Z.heap.size Z W) (by kernel_rfl) (Below.refl _ _).drew (fun hHeld => ?_)
    refine tk 0 15 (.pointer (some ⟨w.heap.size, 5, none⟩)) rfl hHeld ?_
    simp only [Act.put, sA, sZ, sS]
    refine tkY 1 16 (.int .i64 (p : Int)) rfl (Or.inl ⟨by rfl, fun W hW => by have hc := K5.out W hW; go_simp⟩) hHeld ?_
    simp only [Act.put, sA, sZ, sS]
    refine tk 2 17 (.slice (some ⟨b, off, none⟩) len cap) rfl hHeld ?_
    simp only [Act.put, sA, sZ, sS]
    refine tk 3 18 (.pointer (some ⟨b, off + 1, none⟩)) rfl hHeld ?_
    simp only [Act.put, sA, sZ, sS]
    refine tkY 4 19 (.int .u8 (m1 : Int)) rfl (Or.inl ⟨by rfl, fun W hW => by have hc := C1.out W hW; go_simp⟩) hHeld ?_
    simp only [Act.put, sA, sZ, sS]
    refine tk 5 20 (.int .i64 (m1 : Int)) rfl hHeld ?_
    simp only [Act.put, sA, sZ, sS]
    refine wpAnyH_ready (rs := [6]) (by kernel_rfl) (by simp) (AllReadyH.cons (o := ⟨some 21, _, _, _, _, _⟩) rfl (fun K hK => ?_) AllReadyH.nil)
    go_simp
    refine (HSZ.out _).mono ?_
    rintro e3 w3 ⟨rfl, rfl⟩
    refine hK.out _ _ hHeld (fun hHeld => ?_)
    clear hK K
    refine tk 7 6 (.int .i64 (sz : Int)) rfl hHeld ?_
    simp only [Act.put, sA, sZ, sS]
    refine wpAnyH_done (by kernel_rfl) ?_ _
    clear hHeld
    rw [HY.out]
    have q44 := Q44.out
    go_wp2_with fail
    refine HNU.out.mono ?_
    rintro e6 w6 ⟨rfl, hb6⟩
    have V1 := Lib.hid (HYQ.out.below HYQ.out.lt hb6)
    have V2 := Lib.hid (HYR.out.below HYR.out.lt hb6)
    have V3 := Lib.hid (hb6.mono HYB.out.size)
    have hfb := HFB2.out
    clear hb6 y5
    clear HFB2
    go_wp2_with (first
      | ((with_reducible show wpList _ _ _ _ _ _); refine wpList_storeB rfl (.tmp 36) (.tmp 35) rfl w.heap.size 3 (by rfl) fb (by rfl) 65 _ V1.out f.frag rfl ?_; intro w7 hq7 hf7 hb7; have Q7 : Hid (Blk_9 w7 65 w.heap.size (frL_9 ⟨f.head, f.total, f.hop, fb, f.exts, f.proto, f.s, f.d⟩)) := Lib.hid hq7; have R7 : Hid (Blk_9 w7 65 (w.heap.size + 1) (frL_9 Fr_9.zero)) := Lib.hid ((hf7 _ (Nat.succ_ne_self _)).trans V2.out); have B7 := Lib.hid (V3.out.trans hb7); have z0 := Q7.out.cell (i := 0) (v := .int .i64 f.head) rfl; rw [H0.out] at z0; clear hq7 hf7 hb7)
      | ((with_reducible show wpList _ _ _ _ _ _); refine wpList_storeI_9 rfl (.tmp 41) (.tmp 40) rfl w.heap.size 0 (by rfl) ((hd + sz : Nat) : Int) (by rfl) 65 _ Q7.out f.head rfl ?_; intro w8 hq8 hf8 hb8; have Q8 : Hid (Blk_9 w8 65 w.heap.size (frL_9 ⟨((hd + sz : Nat) : Int), f.total, f.hop, fb, f.exts, f.proto, f.s, f.d⟩)) := Lib.hid hq8; have R8 : Hid (Blk_9 w8 65 (w.heap.size + 1) (frL_9 Fr_9.zero)) := Lib.hid ((hf8 _ (Nat.succ_ne_self _)).trans R7.out); have B8 := Lib.hid (B7.out.trans hb8); have z4 := Q8.out.cell (i := 4) (v := .int .i64 f.exts) rfl; rw [H4.out] at z4; clear hq8 hf8 hb8 z0)
      | ((with_reducible show wpList _ _ _ _ _ _); refine wpList_storeI_9 rfl (.tmp 45) (.tmp 44) rfl w.heap.size 4 (by rfl) ((e + 1 : Nat) : Int) (by rfl) 65 _ Q8.out f.exts rfl ?_; intro w9 hq9 hf9 hb9; have Q9 : Hid (Blk_9 w9 65 w.heap.size (frL_9 ⟨((hd + sz : Nat) : Int), f.total, f.hop, fb, ((e + 1 : Nat) : Int), f.proto, f.s, f.d⟩)) := Lib.hid hq9; have R9 : Hid (Blk_9 w9 65 (w.heap.size + 1) (frL_9 Fr_9.zero)) := Lib.hid ((hf9 _ (Nat.succ_ne_self _)).trans R8.out); have B9 := Lib.hid (B8.out.trans hb9); have c0 := C0.out _ B9.out; rw [Nat.add_zero] at c0; clear hq9 hf9 hb9 z4)
      | ((with_reducible show wpList _ _ _ _ _ _); refine wpList_storeI_9 rfl (.tmp 50) (.tmp 49) rfl w.heap.size 5 (by rfl) (x0 : Int) (by rfl) 65 _ Q9.out f.proto rfl ?_; intro wa hqa hfa hba; have QA : Hid (Blk_9 wa 65 w.heap.size (frL_9 pf)) := Lib.hid (by rw [HPF.out]; exact hqa); have RA : Hid (Blk_9 wa 65 (w.heap.size + 1) (frL_9 Fr_9.zero)) := Lib.hid ((hfa _ (Nat.succ_ne_self _)).trans R9.out); have BA := Lib.hid (HYB.out.trans (B9.out.trans hba)); clear hqa hfa hba c0)
      | ((with_reducible show wpList _ _ _ _ _ _); refine wpList_loadF_9 rfl (.tmp 2) rfl w.heap.size (by rfl) pf HFO.out QA.out ?_)
      | ((with_reducible show wpList _ _ _ _ _ _); refine wpList_storeR_9 rfl 65 (.tmp 4) (.tmp 51) rfl (w.heap.size + 1) (by rfl) (frL_9 pf) (by rfl) _ RA.out (by rw [frL_len_9 HFO.out]; rfl) (sizeFrL_9 HFO.out) (frL_one_9 _) ?_))
    refine bodyPost_ret (v := .tuple #[frC_9 pf, .int .i64 0]) (results_fr_9 rfl _ _ (w.heap.size + 1) (by rfl) _ HFO.out (RA.out.setRow_ _) _ (by rfl)) rfl ?_
    exact ⟨rfl, below_setRow BA.out (Nat.le_succ _) _⟩
  have q44 : ((p : Int) == 44) = false := by simp; omega
  have hfb := hfn p44
  subst hfb
  have V1 := HYQ
  have V2 := HYR
  have V3 := Lib.hid (Below.refl w.heap.size Y)
  clear HFB hfn
  go_enter Try.func75, Try.ntmps75
  go_wp2_with fail
  rw [HZ.out]
  refine wp_region_held_drew (S := fun W => Below Z.heap.size Z W) (by kernel_rfl) (Below.refl _ _).drew (fun hHeld => ?_)
  refine tk 0 15 (.pointer (some ⟨w.heap.size, 5, none⟩)) rfl hHeld ?_
  simp only [Act.put, sA, sZ, sS]
  refine tkY 1 16 (.int .i64 (p : Int)) rfl (Or.inl ⟨by rfl, fun W hW => by have hc := K5.out W hW; go_simp⟩) hHeld ?_
  simp only [Act.put, sA, sZ, sS]
  refine tk 2 17 (.slice (some ⟨b, off, none⟩) len cap) rfl hHeld ?_
  simp only [Act.put, sA, sZ, sS]
  refine tk 3 18 (.pointer (some ⟨b, off + 1, none⟩)) rfl hHeld ?_
  simp only [Act.put, sA, sZ, sS]
  refine tkY 4 19 (.int .u8 (m1 : Int)) rfl (Or.inl ⟨by rfl, fun W hW => by have hc := C1.out W hW; go_simp⟩) hHeld ?_
  simp only [Act.put, sA, sZ, sS]
  refine tk 5 20 (.int .i64 (m1 : Int)) rfl hHeld ?_
  simp only [Act.put, sA, sZ, sS]
  refine wpAnyH_ready (rs := [6]) (by kernel_rfl) (by simp) (AllReadyH.cons (o := ⟨some 21, _, _, _, _, _⟩) rfl (fun K hK => ?_) AllReadyH.nil)
  go_simp
  refine (HSZ.out _).mono ?_
  rintro e3 w3 ⟨rfl, rfl⟩
  refine hK.out _ _ hHeld (fun hHeld => ?_)
  clear hK K
  refine tk 7 6 (.int .i64 (sz : Int)) rfl hHeld ?_
  simp only [Act.put, sA, sZ, sS]
  refine wpAnyH_done (by kernel_rfl) ?_ _
  clear hHeld
  rw [HY.out]
  go_wp2_with (first
    | ((with_reducible show wpList _ _ _ _ _ _); refine wpList_storeB rfl (.tmp 36) (.tmp 35) rfl w.heap.size 3 (by rfl) false (by rfl) 65 _ V1.out f.frag rfl ?_; intro w7 hq7 hf7 hb7; have Q7 : Hid (Blk_9 w7 65 w.heap.size (frL_9 ⟨f.head, f.total, f.hop, false, f.exts, f.proto, f.s, f.d⟩)) := Lib.hid hq7; have R7 : Hid (Blk_9 w7 65 (w.heap.size + 1) (frL_9 Fr_9.zero)) := Lib.hid ((hf7 _ (Nat.succ_ne_self _)).trans V2.out); have B7 := Lib.hid (V3.out.trans hb7); have z0 := Q7.out.cell (i := 0) (v := .int .i64 f.head) rfl; rw [H0.out] at z0; clear hq7 hf7 hb7)
    | ((with_reducible show wpList _ _ _ _ _ _); refine wpList_storeI_9 rfl (.tmp 41) (.tmp 40) rfl w.heap.size 0 (by rfl) ((hd + sz : Nat) : Int) (by rfl) 65 _ Q7.out f.head rfl ?_; intro w8 hq8 hf8 hb8; have Q8 : Hid (Blk_9 w8 65 w.heap.size (frL_9 ⟨((hd + sz : Nat) : Int), f.total, f.hop, false, f.exts, f.proto, f.s, f.d⟩)) := Lib.hid hq8; have R8 : Hid (Blk_9 w8 65 (w.heap.size + 1) (frL_9 Fr_9.zero)) := Lib.hid ((hf8 _ (Nat.succ_ne_self _)).trans R7.out); have B8 := Lib.hid (B7.out.trans hb8); have z4 := Q8.out.cell (i := 4) (v := .int .i64 f.exts) rfl; rw [H4.out] at z4; clear hq8 hf8 hb8 z0)
    | ((with_reducible show wpList _ _ _ _ _ _); refine wpList_storeI_9 rfl (.tmp 45) (.tmp 44) rfl w.heap.size 4 (by rfl) ((e + 1 : Nat) : Int) (by rfl) 65 _ Q8.out f.exts rfl ?_; intro w9 hq9 hf9 hb9; have Q9 : Hid (Blk_9 w9 65 w.heap.size (frL_9 ⟨((hd + sz : Nat) : Int), f.total, f.hop, false, ((e + 1 : Nat) : Int), f.proto, f.s, f.d⟩)) := Lib.hid hq9; have R9 : Hid (Blk_9 w9 65 (w.heap.size + 1) (frL_9 Fr_9.zero)) := Lib.hid ((hf9 _ (Nat.succ_ne_self _)).trans R8.out); have B9 := Lib.hid (B8.out.trans hb9); have c0 := C0.out _ B9.out; rw [Nat.add_zero] at c0; clear hq9 hf9 hb9 z4)
    | ((with_reducible show wpList _ _ _ _ _ _); refine wpList_storeI_9 rfl (.tmp 50) (.tmp 49) rfl w.heap.size 5 (by rfl) (x0 : Int) (by rfl) 65 _ Q9.out f.proto rfl ?_; intro wa hqa hfa hba; have QA : Hid (Blk_9 wa 65 w.heap.size (frL_9 pf)) := Lib.hid (by rw [HPF.out]; exact hqa); have RA : Hid (Blk_9 wa 65 (w.heap.size + 1) (frL_9 Fr_9.zero)) := Lib.hid ((hfa _ (Nat.succ_ne_self _)).trans R9.out); have BA := Lib.hid (HYB.out.trans (B9.out.trans hba)); clear hqa hfa hba c0)
    | ((with_reducible show wpList _ _ _ _ _ _); refine wpList_loadF_9 rfl (.tmp 2) rfl w.heap.size (by rfl) pf HFO.out QA.out ?_)
    | ((with_reducible show wpList _ _ _ _ _ _); refine wpList_storeR_9 rfl 65 (.tmp 4) (.tmp 51) rfl (w.heap.size + 1) (by rfl) (frL_9 pf) (by rfl) _ RA.out (by rw [frL_len_9 HFO.out]; rfl) (sizeFrL_9 HFO.out) (frL_one_9 _) ?_))
  refine bodyPost_ret (v := .tuple #[frC_9 pf, .int .i64 0]) (results_fr_9 rfl _ _ (w.heap.size + 1) (by rfl) _ HFO.out (RA.out.setRow_ _) _ (by rfl)) rfl ?_
  exact ⟨rfl, below_setRow BA.out (Nat.le_succ _) _⟩
end
section
open Go.RowKit Go.Lib
/-- One extension, by passed. -/
theorem pass_step {xs : List UInt8} {T : Nat} {k : Wk} (hk : k.Fit T) (hT : T ≤ xs.length) :
    passN k.exts k.proto ((xs.drop k.head).take (T - k.head)) = stepF xs T k ∧ (stepF xs T k = 0 → passF (hdAt xs k) k.head k.exts k.proto ((xs.drop k.head).take (T - k.head)) = hdAt xs (stepK xs k)) := by
  obtain ⟨ys, hys⟩ : ∃ ys, (xs.drop k.head).take (T - k.head) = ys := ⟨_, rfl⟩
  have h1 := hk.h1
  have hl : ys.length = T - k.head := by rw [← hys, List.length_take, List.length_drop]; omega
  have hb : ∀ i, i < T - k.head → batN ys i = batN xs (k.head + i) := fun i hi => by rw [← hys, batN_cut _ _ hi]
  rw [hys]
  have e : passN k.exts k.proto ys = stepF xs T k := by
    unfold passN stepF
    rw [hl]
    by_cases h8 : k.exts = 8
    · rw [if_pos h8, if_pos h8]
    · rw [if_neg h8, if_neg h8]
      by_cases hlt : T - k.head < 8
      · rw [if_pos hlt, if_pos hlt]
      · rw [if_neg hlt, if_neg hlt, hb 1 (by omega)]
  refine ⟨e, fun h0 => ?_⟩
  have hge : 8 ≤ T - k.head := by
    unfold stepF at h0
    split at h0
    · omega
    split at h0
    · omega
    omega
  unfold passF
  rw [if_pos (by rw [e]; exact h0), hb 1 (by omega), hb 0 (by omega), show wat ys 2 = wat xs (k.head + 2) by unfold wat; rw [hb 2 (by omega), hb 3 (by omega)]]
  rfl
theorem step_fits {xs : List UInt8} {T : Nat} {k : Wk} (hs : stepF xs T k = 0) (he : k.exts ≤ 8) : k.exts ≤ 7 := by
  unfold stepF at hs
  split at hs
  · omega
  · omega
theorem rd_end {xs : List UInt8} {k : Wk} (hf : faultN_9 xs = 0) (h : walkOf xs (totN_9 xs) k = walkOf xs (totN_9 xs) (wk0 xs)) (hg : goB k = false) : rdF_9 xs = hdAt xs k ∧ rdN xs = 0 := by
  rw [walk_end hg] at h
  have h0 : rdN xs = 0 := by rw [rdN_walk hf, ← h]
  exact ⟨by rw [rdF_yes_9 h0, ← h], h0⟩
theorem rd_stop {xs : List UInt8} {k : Wk} (hf : faultN_9 xs = 0) (h : walkOf xs (totN_9 xs) k = walkOf xs (totN_9 xs) (wk0 xs)) (hg : goB k = true) (he : k.exts ≤ 8) (hs : stepF xs (totN_9 xs) k ≠ 0) : rdF_9 xs = Fr_9.zero ∧ rdN xs = stepF xs (totN_9 xs) k := by
  rw [walk_bad hg he hs] at h
  have h0 : rdN xs = stepF xs (totN_9 xs) k := by rw [rdN_walk hf, ← h]
  exact ⟨rdF_no_9 (by rw [h0]; exact hs), h0⟩
/-- A header is stored into a cell that was just laid. -/
theorem wpList_storeNew_9 {w : World} {ops : Array Oper} {rest : List Oper} {op : Oper} {a : Act} {Q : Exit → Act → World → Prop} (hgd : op.guard = none) (x y : Operand) (ho : op.op = .store 65 x y)
    (hx : a.eval x = .pointer (some ⟨w.heap.size, 0, none⟩)) (f : Fr_9) (hf : f.Ok) (hy : a.eval y = frC_9 f)
    (h : ∀ w', Blk_9 w' 65 w.heap.size (frL_9 f) → Below w.heap.size w w' → w'.heap.size = w.heap.size + 1 → wpList Try.prog ops Q rest (a.put op.dst undef) w') :
    wpList Try.prog ops Q (op :: rest) a (w.alloc (.cells #[Value.int .i64 0, .int .i64 0, .int .i64 0, .bool false, .int .i64 0, .int .i64 0, .bool false, .int .u8 0, .int .u8 0, .int .u8 0, .int .u8 0, .int .u8 0, .int .u8 0, .int .u8 0, .int .u8 0, .int .u8 0, .int .u8 0, .int .u8 0, .int .u8 0, .int .u8 0, .int .u8 0, .int .u8 0, .int .u8 0, .bool false, .int .u8 0, .int .u8 0, .int .u8 0, .int .u8 0, .int .u8 0, .int .u8 0, .int .u8 0, .int .u8 0, .int .u8 0, .int .u8 0, .int .u8 0, .int .u8 0, .int .u8 0, .int .u8 0, .int .u8 0, .int .u8 0] 65)) := by
  rw [zeroF_9]
  have hb := Blk_9.new w 65 (frL_9 Fr_9.zero)
  refine wpList_storeR_9 hgd 65 x y ho w.heap.size hx (frL_9 f) hy _ hb (by rw [frL_len_9 hf]; rfl) (sizeFrL_9 hf) (frL_one_9 _) ?_
  refine h _ (hb.setRow_ _) (below_setRow ((Below.refl _ _).alloc (Nat.le_refl _) _) (Nat.le_refl _) _) ?_
  rw [World.setRow]; simp
set_option maxRecDepth 100000 in
set_option maxHeartbeats 4000000 in
theorem read_any_9 (A : Option Addr) (len cap : Nat) (xs : List UInt8) (hlen : len ≤ 1000000) (hcap : len ≤ cap) (hcap2 : cap ≤ maxLen) (w : World) (hI : Rd w w.heap.size A len xs) :
    Calls Try.prog 55 #[.slice A len cap] w (ReadGave_9 w (rdF_9 xs) (rdN xs)) := by
  have HL := Lib.hid hI.len
  have HIW := Lib.hid hI
  obtain ⟨Z, hZ⟩ : ∃ Z : World, w.alloc (.cells (frL_9 Fr_9.zero).toArray 65) = Z := ⟨_, rfl⟩
  have hR0 : Blk_9 Z 65 w.heap.size (frL_9 Fr_9.zero) := by rw [← hZ]; exact Blk_9.new w _ _
  have hB0 : Below w.heap.size w Z := by rw [← hZ]; exact (Below.refl w.heap.size w).alloc (Nat.le_refl _) _
  rw [← zeroF_9] at hZ
  have HZ := Lib.hid hZ
  have HF := Lib.hid (fault_any_9 A len cap xs hlen hcap hcap2 Z ((hI.below hB0).more hB0.size))
  have HI0 := Lib.hid (hI.below hB0)
  have HR0 := Lib.hid hR0
  have HB0 := Lib.hid hB0
  have HZO := Lib.hid Fr_9.ok_zero
  clear hZ hI hR0 hB0
  by_cases h0 : faultN_9 xs = 0
  · rw [h0] at HF
    have HF0 := Lib.hid h0
    obtain ⟨h40, _, hTx⟩ := fault_zero_9 h0
    rw [HL.out] at h40 hTx
    have HOK := Lib.hid (fun k : Wk => hdAt_ok xs k (by rw [HL.out]; exact h40))
    have HT40 := Lib.hid (show 40 ≤ totN_9 xs by unfold totN_9; omega)
    have HTL := Lib.hid (totN_lt xs)
    have HTX := Lib.hid hTx
    clear h0 hTx
    go_enter Try.func55, Try.ntmps55
    go_wp2_with fail
    rw [HZ.out]
    refine HF.out.mono ?_
    rintro e w0 ⟨rfl, hb0⟩
    have HI1 := Lib.hid (HI0.out.below (hb0.mono HB0.out.size))
    have HR1 := Lib.hid (HR0.out.below HR0.out.lt hb0)
    have HB1 := Lib.hid (HB0.out.trans (hb0.mono HB0.out.size))
    clear hb0
    have HH := Lib.hid (header_any A len cap xs h40 hlen hcap hcap2 w0 (HI1.out.more HB1.out.size))
    go_wp2_with fail
    refine HH.out.mono ?_
    rintro e w1 ⟨rfl, hb1⟩
    have HI2 := Lib.hid (HI1.out.below (hb1.mono HB1.out.size))
    have HR2 := Lib.hid (HR1.out.below HR1.out.lt hb1)
    have HB2 := Lib.hid (HB1.out.trans (hb1.mono HB1.out.size))
    clear hb1 HI0 HR0 HB0 HI1 HR1 HB1 HF HH HZ
    go_wp2_with ((with_reducible show wpList _ _ _ _ _ _); refine wpList_storeNew_9 rfl (.tmp 5) (.tmp 14) rfl (by rfl) (hdAt xs (wk0 xs)) (HOK.out _) (by rfl) ?_; intro w2 hq2 hb2 hs2; have HG := Lib.hid HR2.out.lt; have HI3 := Lib.hid (HI2.out.below (hb2.mono HB2.out.size)); have HR3 := Lib.hid (HR2.out.below HR2.out.lt hb2); have HB3 := Lib.hid (HB2.out.trans (hb2.mono HB2.out.size)); have HQ3 := Lib.hid hq2; clear hq2 hb2 hs2 HI2 HR2 HB2)
    obtain ⟨G, hG⟩ : ∃ G, w1.heap.size = G := ⟨_, rfl⟩
    rw [hG] at HQ3 HG ⊢
    clear hG
    simp only [Act.put]
    go_loopg [6] 9 (fun gh v6 wr => ∃ k : Wk, k.exts + gh = 9 ∧ walkOf xs (totN_9 xs) k = walkOf xs (totN_9 xs) (wk0 xs) ∧ k.Fit (totN_9 xs) ∧ Blk_9 wr 65 w.heap.size (frL_9 Fr_9.zero) ∧ Blk_9 wr 65 G (frL_9 (hdAt xs k)) ∧ Below w.heap.size w wr)
    case atStart => exact ⟨wk0 xs, rfl, rfl, wk0_fit HT40.out, HR3.out, HQ3.out, HB3.out⟩
    case round =>
      clear HR3 HQ3 HB3 HI3
      obtain ⟨k, hgh, hwk, hfit, bR, bH, hB⟩ := hrel
      have c5 := bH.cell (i := 5) (v := .int .i64 (k.proto : Nat)) rfl
      have c3 := bH.cell (i := 3) (v := .bool k.frag) rfl
      have HX := Lib.hid (fun W => isext_any (k.proto : Int) W)
      rw [extI_nat] at HX
      have HBR := Lib.hid bR
      have HBH := Lib.hid bH
      have HBB := Lib.hid hB
      have HFIT := Lib.hid hfit
      have HWK := Lib.hid hwk
      have HGH := Lib.hid hgh
      have HO := Lib.hid (HOK.out k)
      have HI4 := Lib.hid (HIW.out.below hB)
      clear bR bH hB hfit hwk hgh
      by_cases hg : goB k = true
      · have hx : extB k.proto = true := by unfold goB at hg; exact (Bool.and_eq_true _ _ ▸ hg).1
        have hfr : k.frag = false := by unfold goB at hg; have := (Bool.and_eq_true _ _ ▸ hg).2; simpa using this
        rw [hfr] at c3
        rw [hx] at HX
        have HGO := Lib.hid hg
        obtain ⟨hpn, hpf⟩ := pass_step HFIT.out (by rw [HL.out]; exact HTX.out)
        have hh0 := HFIT.out.h0
        have hh1 := HFIT.out.h1
        have hTl := HTL.out
        have hTx := HTX.out
        have he := HFIT.out.e
        obtain ⟨b, off, rfl, _⟩ := HI4.out.addr (by omega)
        have HRD := Lib.hid (fun W (hW : Below w.heap.size wr W) => (HI4.out.below hW).cut (l := k.head) (n := totN_9 xs - k.head) (by omega) cap hcap)
        have HP := Lib.hid (fun W (hW : Below w.heap.size wr W) => passed_any HO.out (hd := k.head) (e := k.exts) (p := k.proto) rfl rfl rfl hx (by omega) he _ _ (cap - k.head) _ (by omega) (by omega) (by omega) W ((HRD.out W hW).more (Nat.le_trans HBB.out.size hW.size)))
        have hcut := fun W => run_cut8 (some ⟨b, off, none⟩) len cap k.head (totN_9 xs - k.head) (k.head : Int) ((totN_9 xs : Nat) : Int) rfl (by omega) (by omega) W
        obtain ⟨h, hh⟩ : ∃ h, hdAt xs k = h := ⟨_, rfl⟩
        have D0 := Lib.hid (show h.head = (k.head : Int) by rw [← hh]; rfl)
        have D1 := Lib.hid (show h.total = ((totN_9 xs : Nat) : Int) by rw [← hh]; rfl)
        rw [hpn] at HP
        rw [hh] at HP HO HBH hpf
        generalize hpfn : passF h k.head k.exts k.proto ((xs.drop k.head).take (totN_9 xs - k.head)) = pf at HP hpf
        have HPO := Lib.hid (show pf.Ok by rw [← hpfn]; exact pass_ok h HO.out _ _ _ _)
        have HPF := Lib.hid hpf
        have HGO := HGO
        have d0 := HBH.out.drew.cell (i := 0) (v := .int .i64 h.head) rfl
        have d1 := HBH.out.drew.cell (i := 1) (v := .int .i64 h.total) rfl
        rw [D0.out] at d0
        rw [D1.out] at d1
        have HZD := Lib.hid (Below.refl w.heap.size wr).drew
        have HST := Lib.hid (fun h0 : stepF xs (totN_9 xs) k = 0 => step_fits h0 he)
        have HNX := Lib.hid (fun h0 : stepF xs (totN_9 xs) k = 0 => (walk_step HGO.out he h0).symm.trans HWK.out)
        have HFX := Lib.hid (fun h0 : stepF xs (totN_9 xs) k = 0 => stepK_fit HFIT.out h0)
        have HSB := Lib.hid (fun h0 : stepF xs (totN_9 xs) k ≠ 0 => rd_stop HF0.out HWK.out HGO.out he h0)
        clear HWK HFIT
        generalize stepF xs (totN_9 xs) k = sn at *
        generalize hhd : k.head = hd at *
        generalize hTT : totN_9 xs = TT at *
        obtain ⟨n, hn⟩ : ∃ n, TT - hd = n := ⟨_, rfl⟩
        rw [hn] at HP hcut
        clear hpn hpfn hpf hx hg hn HI4 HRD
        go_wp2_with fail
        refine (HX.out _).mono ?_
        rintro e w5 ⟨rfl, rfl⟩
        go_wp2_with fail
        refine wp_region_any (by kernel_rfl) ?_
        try (change wpAny _ _ _ _ _ _ _ (World.drew _))
        refine wpAny_take (i := 1) (oi := ⟨some 25, _, _, _, _, _⟩) (v := .slice (some ⟨b, off, none⟩) len cap) rfl (by kernel_rfl) (by kernel_rfl) (by kernel_rfl) (fun _ _ _ h => h) (Or.inl ⟨by rfl, fun _ => by go_simp⟩) ?_
        simp only [Act.put, sA, sZ, sS]
        refine wpAny_take (i := 2) (oi := ⟨some 26, _, _, _, _, _⟩) (v := .pointer (some ⟨G, 0, none⟩)) rfl (by kernel_rfl) (by kernel_rfl) (by kernel_rfl) (fun _ _ _ h => h) (Or.inl ⟨by rfl, fun _ => by go_simp⟩) ?_
        simp only [Act.put, sA, sZ, sS]
        refine wpAny_take (i := 4) (oi := ⟨some 28, _, _, _, _, _⟩) (v := .pointer (some ⟨G, 1, none⟩)) rfl (by kernel_rfl) (by kernel_rfl) (by kernel_rfl) (fun _ _ _ h => h) (Or.inl ⟨by rfl, fun _ => by go_simp⟩) ?_
        simp only [Act.put, sA, sZ, sS]
        refine wpAny_ready (rs := [0, 3, 5]) (by kernel_rfl) (by simp) ?_
        refine AllReady.cons (o := ⟨some 24, _, _, _, _, _⟩) rfl (fun K hK => ?_) ?_
        · rw [if_pos (by rfl)]
          refine wp_load_mid 65 _ rfl G 0 (by rfl) (frL_9 h) _ HBH.out.drew.range Try.underlying65 rfl (sizeFrL_9 HO.out) (hK _ _ ?_)
          simp only [Act.put, sA, sZ, sS]
          clear hK K
          refine wpAny_ready (rs := [3, 5]) (by kernel_rfl) (by simp) ?_
          refine AllReady.cons (o := ⟨some 27, _, _, _, _, _⟩) rfl (fun K hK => ?_) ?_
          · go_simp
            refine hK _ _ ?_
            clear hK K
            refine wpAny_ready (rs := [5]) (by kernel_rfl) (by simp) ?_
            refine AllReady.cons (o := ⟨some 29, _, _, _, _, _⟩) rfl (fun K hK => ?_) ?_
            · go_simp
              refine hK _ _ ?_
              clear hK K
              refine wpAny_take (i := 6) (oi := ⟨some 30, _, _, _, _, _⟩) (v := .slice (cutA (some ⟨b, off, none⟩) cap hd) n (cap - hd)) rfl (by kernel_rfl) (by kernel_rfl) (by kernel_rfl) (fun _ _ _ h => h) (Or.inl ⟨by rfl, fun _ => by go_simp⟩) ?_
              simp only [Act.put, sA, sZ, sS]
              refine wpAny_ready (rs := [7]) (by kernel_rfl) (by simp) (AllReady.cons (o := ⟨some 31, _, _, _, _, _⟩) rfl (fun K hK => ?_) AllReady.nil)
              go_simp
              refine (HP.out _ HZD.out).mono ?_
              rintro e6 w6 ⟨rfl, hb6⟩
              refine hK _ _ ?_
              clear hK K
              have HR6 := Lib.hid (HBR.out.drew.below HBR.out.lt hb6)
              have HG6 := Lib.hid (HBH.out.drew.below HBH.out.lt hb6)
              have HB6 := Lib.hid (HBB.out.trans (HZD.out.trans (hb6.mono HBB.out.size)))
              clear hb6
              refine wpAny_take (i := 8) (oi := ⟨some 23, _, _, _, _, _⟩) (v := .tuple #[frC_9 pf, .int .i64 (sn : Int)]) rfl (by kernel_rfl) (by kernel_rfl) (by kernel_rfl) (fun _ _ _ h => h) (Or.inl ⟨by rfl, fun _ => by go_simp⟩) ?_
              simp only [Act.put, sA, sZ, sS]
              refine wpAny_take (i := 9) (oi := ⟨some 32, _, _, _, _, _⟩) (v := frC_9 pf) rfl (by kernel_rfl) (by kernel_rfl) (by kernel_rfl) (fun _ _ _ h => h) (Or.inl ⟨by rfl, fun _ => by go_simp⟩) ?_
              simp only [Act.put, sA, sZ, sS]
              refine wpAny_take (i := 10) (oi := ⟨some 33, _, _, _, _, _⟩) (v := .int .i64 (sn : Int)) rfl (by kernel_rfl) (by kernel_rfl) (by kernel_rfl) (fun _ _ _ h => h) (Or.inl ⟨by rfl, fun _ => by go_simp⟩) ?_
              simp only [Act.put, sA, sZ, sS]
              refine wpAny_ready (rs := [11]) (by kernel_rfl) (by simp) (AllReady.cons (o := ⟨none, _, _, _, _, _⟩) rfl (fun K hK => ?_) AllReady.nil)
              refine step_storeR_9 rfl 65 _ _ rfl G (by rfl) (frL_9 pf) (by rfl) _ HG6.out (by rw [frL_len_9 HPO.out, frL_len_9 HO.out]) (sizeFrL_9 HPO.out) (frL_one_9 _) ?_
              refine hK _ _ ?_
              clear hK K
              have HR7 := Lib.hid (HR6.out.setRow_far (b := G) (Nat.ne_of_lt HG.out) (frL_9 pf).toArray)
              have HG7 := Lib.hid (HG6.out.setRow_ (frL_9 pf))
              have HB7 := Lib.hid (below_setRow HB6.out (Nat.le_of_lt HG.out) (frL_9 pf).toArray)
              clear HR6 HG6 HB6
              refine wpAny_take (i := 12) (oi := ⟨some 6, _, _, _, _, _⟩) (v := .int .i64 (sn : Int)) rfl (by kernel_rfl) (by kernel_rfl) (by kernel_rfl) (fun _ _ _ h => h) (Or.inl ⟨by rfl, fun _ => by go_simp⟩) ?_
              simp only [Act.put, sA, sZ, sS]
              refine wpAny_done (by kernel_rfl) ?_ _
              generalize w6.setRow G (frL_9 pf).toArray = w7 at *
              by_cases hsn : sn = 0
              · have n0 : ((sn : Int) != 0) = false := by simp; omega
                go_wp2_with fail
                go_roundg (gk - 1)
                case measure => have := HGH.out; have := HST.out hsn; omega
                case rel => exact ⟨stepK xs k, by have := HGH.out; have := HST.out hsn; show k.exts + 1 + (gk - 1) = 9; omega, HNX.out hsn, HFX.out hsn, HR7.out, by rw [← HPF.out hsn]; exact HG7.out, HB7.out⟩
              · have n1 : ((sn : Int) != 0) = true := by simp; omega
                have Q := Lib.hid (HSB.out hsn)
                go_wp2_with (first
                  | ((with_reducible show wpList _ _ _ _ _ _); refine wpList_buildTo rfl 65 _ rfl (some 36) rfl (frL_9 Fr_9.zero).toArray (by kernel_rfl) ?_)
                  | ((with_reducible show wpList _ _ _ _ _ _); refine wpList_storeR_9 rfl 65 (.tmp 2) (.tmp 36) rfl w.heap.size (by rfl) (frL_9 Fr_9.zero) (by rfl) _ HR7.out rfl (sizeFrL_9 HZO.out) (frL_one_9 _) ?_))
                refine bodyPost_ret (v := .tuple #[frC_9 Fr_9.zero, .int .i64 (sn : Int)]) (results_fr_9 rfl _ _ w.heap.size (by rfl) _ HZO.out (HR7.out.setRow_ _) _ (by rfl)) rfl ?_
                exact ⟨by rw [Q.out.1, Q.out.2], below_setRow HB7.out (Nat.le_refl _) _⟩
            exact AllReady.nil
          refine AllReady.cons (o := ⟨some 29, _, _, _, _, _⟩) rfl (fun K hK => ?_) ?_
          · go_simp
            refine hK _ _ ?_
            clear hK K
            refine wpAny_ready (rs := [3]) (by kernel_rfl) (by simp) ?_
            refine AllReady.cons (o := ⟨some 27, _, _, _, _, _⟩) rfl (fun K hK => ?_) ?_
            · go_simp
              refine hK _ _ ?_
              clear hK K
              refine wpAny_take (i := 6) (oi := ⟨some 30, _, _, _, _, _⟩) (v := .slice (cutA (some ⟨b, off, none⟩) cap hd) n (cap - hd)) rfl (by kernel_rfl) (by kernel_rfl) (by kernel_rfl) (fun _ _ _ h => h) (Or.inl ⟨by rfl, fun _ => by go_simp⟩) ?_
              simp only [Act.put, sA, sZ, sS]
              refine wpAny_ready (rs := [7]) (by kernel_rfl) (by simp) (AllReady.cons (o := ⟨some 31, _, _, _, _, _⟩) rfl (fun K hK => ?_) AllReady.nil)
              go_simp
              refine (HP.out _ HZD.out).mono ?_
              rintro e6 w6 ⟨rfl, hb6⟩
              refine hK _ _ ?_
              clear hK K
              have HR6 := Lib.hid (HBR.out.drew.below HBR.out.lt hb6)
              have HG6 := Lib.hid (HBH.out.drew.below HBH.out.lt hb6)
              have HB6 := Lib.hid (HBB.out.trans (HZD.out.trans (hb6.mono HBB.out.size)))
              clear hb6
              refine wpAny_take (i := 8) (oi := ⟨some 23, _, _, _, _, _⟩) (v := .tuple #[frC_9 pf, .int .i64 (sn : Int)]) rfl (by kernel_rfl) (by kernel_rfl) (by kernel_rfl) (fun _ _ _ h => h) (Or.inl ⟨by rfl, fun _ => by go_simp⟩) ?_
              simp only [Act.put, sA, sZ, sS]
              refine wpAny_take (i := 9) (oi := ⟨some 32, _, _, _, _, _⟩) (v := frC_9 pf) rfl (by kernel_rfl) (by kernel_rfl) (by kernel_rfl) (fun _ _ _ h => h) (Or.inl ⟨by rfl, fun _ => by go_simp⟩) ?_
              simp only [Act.put, sA, sZ, sS]
              refine wpAny_take (i := 10) (oi := ⟨some 33, _, _, _, _, _⟩) (v := .int .i64 (sn : Int)) rfl (by kernel_rfl) (by kernel_rfl) (by kernel_rfl) (fun _ _ _ h => h) (Or.inl ⟨by rfl, fun _ => by go_simp⟩) ?_
              simp only [Act.put, sA, sZ, sS]
              refine wpAny_ready (rs := [11]) (by kernel_rfl) (by simp) (AllReady.cons (o := ⟨none, _, _, _, _, _⟩) rfl (fun K hK => ?_) AllReady.nil)
              refine step_storeR_9 rfl 65 _ _ rfl G (by rfl) (frL_9 pf) (by rfl) _ HG6.out (by rw [frL_len_9 HPO.out, frL_len_9 HO.out]) (sizeFrL_9 HPO.out) (frL_one_9 _) ?_
              refine hK _ _ ?_
              clear hK K
              have HR7 := Lib.hid (HR6.out.setRow_far (b := G) (Nat.ne_of_lt HG.out) (frL_9 pf).toArray)
              have HG7 := Lib.hid (HG6.out.setRow_ (frL_9 pf))
              have HB7 := Lib.hid (below_setRow HB6.out (Nat.le_of_lt HG.out) (frL_9 pf).toArray)
              clear HR6 HG6 HB6
              refine wpAny_take (i := 12) (oi := ⟨some 6, _, _, _, _, _⟩) (v := .int .i64 (sn : Int)) rfl (by kernel_rfl) (by kernel_rfl) (by kernel_rfl) (fun _ _ _ h => h) (Or.inl ⟨by rfl, fun _ => by go_simp⟩) ?_
              simp only [Act.put, sA, sZ, sS]
              refine wpAny_done (by kernel_rfl) ?_ _
              generalize w6.setRow G (frL_9 pf).toArray = w7 at *
              by_cases hsn : sn = 0
              · have n0 : ((sn : Int) != 0) = false := by simp; omega
                go_wp2_with fail
                go_roundg (gk - 1)
                case measure => have := HGH.out; have := HST.out hsn; omega
                case rel => exact ⟨stepK xs k, by have := HGH.out; have := HST.out hsn; show k.exts + 1 + (gk - 1) = 9; omega, HNX.out hsn, HFX.out hsn, HR7.out, by rw [← HPF.out hsn]; exact HG7.out, HB7.out⟩
              · have n1 : ((sn : Int) != 0) = true := by simp; omega
                have Q := Lib.hid (HSB.out hsn)
                go_wp2_with (first
                  | ((with_reducible show wpList _ _ _ _ _ _); refine wpList_buildTo rfl 65 _ rfl (some 36) rfl (frL_9 Fr_9.zero).toArray (by kernel_rfl) ?_)
                  | ((with_reducible show wpList _ _ _ _ _ _); refine wpList_storeR_9 rfl 65 (.tmp 2) (.tmp 36) rfl w.heap.size (by rfl) (frL_9 Fr_9.zero) (by rfl) _ HR7.out rfl (sizeFrL_9 HZO.out) (frL_one_9 _) ?_))
                refine bodyPost_ret (v := .tuple #[frC_9 Fr_9.zero, .int .i64 (sn : Int)]) (results_fr_9 rfl _ _ w.heap.size (by rfl) _ HZO.out (HR7.out.setRow_ _) _ (by rfl)) rfl ?_
                exact ⟨by rw [Q.out.1, Q.out.2], below_setRow HB7.out (Nat.le_refl _) _⟩
            exact AllReady.nil
          exact AllReady.nil
        refine AllReady.cons (o := ⟨some 27, _, _, _, _, _⟩) rfl (fun K hK => ?_) ?_
        · go_simp
          refine hK _ _ ?_
          clear hK K
          refine wpAny_ready (rs := [0, 5]) (by kernel_rfl) (by simp) ?_
          refine AllReady.cons (o := ⟨some 24, _, _, _, _, _⟩) rfl (fun K hK => ?_) ?_
          · rw [if_pos (by rfl)]
            refine wp_load_mid 65 _ rfl G 0 (by rfl) (frL_9 h) _ HBH.out.drew.range Try.underlying65 rfl (sizeFrL_9 HO.out) (hK _ _ ?_)
            simp only [Act.put, sA, sZ, sS]
            clear hK K
            refine wpAny_ready (rs := [5]) (by kernel_rfl) (by simp) ?_
            refine AllReady.cons (o := ⟨some 29, _, _, _, _, _⟩) rfl (fun K hK => ?_) ?_
            · go_simp
              refine hK _ _ ?_
              clear hK K
              refine wpAny_take (i := 6) (oi := ⟨some 30, _, _, _, _, _⟩) (v := .slice (cutA (some ⟨b, off, none⟩) cap hd) n (cap - hd)) rfl (by kernel_rfl) (by kernel_rfl) (by kernel_rfl) (fun _ _ _ h => h) (Or.inl ⟨by rfl, fun _ => by go_simp⟩) ?_
              simp only [Act.put, sA, sZ, sS]
              refine wpAny_ready (rs := [7]) (by kernel_rfl) (by simp) (AllReady.cons (o := ⟨some 31, _, _, _, _, _⟩) rfl (fun K hK => ?_) AllReady.nil)
              go_simp
              refine (HP.out _ HZD.out).mono ?_
              rintro e6 w6 ⟨rfl, hb6⟩
              refine hK _ _ ?_
              clear hK K
              have HR6 := Lib.hid (HBR.out.drew.below HBR.out.lt hb6)
              have HG6 := Lib.hid (HBH.out.drew.below HBH.out.lt hb6)
              have HB6 := Lib.hid (HBB.out.trans (HZD.out.trans (hb6.mono HBB.out.size)))
              clear hb6
              refine wpAny_take (i := 8) (oi := ⟨some 23, _, _, _, _, _⟩) (v := .tuple #[frC_9 pf, .int .i64 (sn : Int)]) rfl (by kernel_rfl) (by kernel_rfl) (by kernel_rfl) (fun _ _ _ h => h) (Or.inl ⟨by rfl, fun _ => by go_simp⟩) ?_
              simp only [Act.put, sA, sZ, sS]
              refine wpAny_take (i := 9) (oi := ⟨some 32, _, _, _, _, _⟩) (v := frC_9 pf) rfl (by kernel_rfl) (by kernel_rfl) (by kernel_rfl) (fun _ _ _ h => h) (Or.inl ⟨by rfl, fun _ => by go_simp⟩) ?_
              simp only [Act.put, sA, sZ, sS]
              refine wpAny_take (i := 10) (oi := ⟨some 33, _, _, _, _, _⟩) (v := .int .i64 (sn : Int)) rfl (by kernel_rfl) (by kernel_rfl) (by kernel_rfl) (fun _ _ _ h => h) (Or.inl ⟨by rfl, fun _ => by go_simp⟩) ?_
              simp only [Act.put, sA, sZ, sS]
              refine wpAny_ready (rs := [11]) (by kernel_rfl) (by simp) (AllReady.cons (o := ⟨none, _, _, _, _, _⟩) rfl (fun K hK => ?_) AllReady.nil)
              refine step_storeR_9 rfl 65 _ _ rfl G (by rfl) (frL_9 pf) (by rfl) _ HG6.out (by rw [frL_len_9 HPO.out, frL_len_9 HO.out]) (sizeFrL_9 HPO.out) (frL_one_9 _) ?_
              refine hK _ _ ?_
              clear hK K
              have HR7 := Lib.hid (HR6.out.setRow_far (b := G) (Nat.ne_of_lt HG.out) (frL_9 pf).toArray)
              have HG7 := Lib.hid (HG6.out.setRow_ (frL_9 pf))
              have HB7 := Lib.hid (below_setRow HB6.out (Nat.le_of_lt HG.out) (frL_9 pf).toArray)
              clear HR6 HG6 HB6
              refine wpAny_take (i := 12) (oi := ⟨some 6, _, _, _, _, _⟩) (v := .int .i64 (sn : Int)) rfl (by kernel_rfl) (by kernel_rfl) (by kernel_rfl) (fun _ _ _ h => h) (Or.inl ⟨by rfl, fun _ => by go_simp⟩) ?_
              simp only [Act.put, sA, sZ, sS]
              refine wpAny_done (by kernel_rfl) ?_ _
              generalize w6.setRow G (frL_9 pf).toArray = w7 at *
              by_cases hsn : sn = 0
              · have n0 : ((sn : Int) != 0) = false := by simp; omega
                go_wp2_with fail
                go_roundg (gk - 1)
                case measure => have := HGH.out; have := HST.out hsn; omega
                case rel => exact ⟨stepK xs k, by have := HGH.out; have := HST.out hsn; show k.exts + 1 + (gk - 1) = 9; omega, HNX.out hsn, HFX.out hsn, HR7.out, by rw [← HPF.out hsn]; exact HG7.out, HB7.out⟩
              · have n1 : ((sn : Int) != 0) = true := by simp; omega
                have Q := Lib.hid (HSB.out hsn)
                go_wp2_with (first
                  | ((with_reducible show wpList _ _ _ _ _ _); refine wpList_buildTo rfl 65 _ rfl (some 36) rfl (frL_9 Fr_9.zero).toArray (by kernel_rfl) ?_)
                  | ((with_reducible show wpList _ _ _ _ _ _); refine wpList_storeR_9 rfl 65 (.tmp 2) (.tmp 36) rfl w.heap.size (by rfl) (frL_9 Fr_9.zero) (by rfl) _ HR7.out rfl (sizeFrL_9 HZO.out) (frL_one_9 _) ?_))
                refine bodyPost_ret (v := .tuple #[frC_9 Fr_9.zero, .int .i64 (sn : Int)]) (results_fr_9 rfl _ _ w.heap.size (by rfl) _ HZO.out (HR7.out.setRow_ _) _ (by rfl)) rfl ?_
                exact ⟨by rw [Q.out.1, Q.out.2], below_setRow HB7.out (Nat.le_refl _) _⟩
            exact AllReady.nil
          refine AllReady.cons (o := ⟨some 29, _, _, _, _, _⟩) rfl (fun K hK => ?_) ?_
          · go_simp
            refine hK _ _ ?_
            clear hK K
            refine wpAny_take (i := 6) (oi := ⟨some 30, _, _, _, _, _⟩) (v := .slice (cutA (some ⟨b, off, none⟩) cap hd) n (cap - hd)) rfl (by kernel_rfl) (by kernel_rfl) (by kernel_rfl) (fun _ _ _ h => h) (Or.inl ⟨by rfl, fun _ => by go_simp⟩) ?_
            simp only [Act.put, sA, sZ, sS]
            refine wpAny_ready (rs := [0]) (by kernel_rfl) (by simp) ?_
            refine AllReady.cons (o := ⟨some 24, _, _, _, _, _⟩) rfl (fun K hK => ?_) ?_
            · rw [if_pos (by rfl)]
              refine wp_load_mid 65 _ rfl G 0 (by rfl) (frL_9 h) _ HBH.out.drew.range Try.underlying65 rfl (sizeFrL_9 HO.out) (hK _ _ ?_)
              simp only [Act.put, sA, sZ, sS]
              clear hK K
              refine wpAny_ready (rs := [7]) (by kernel_rfl) (by simp) (AllReady.cons (o := ⟨some 31, _, _, _, _, _⟩) rfl (fun K hK => ?_) AllReady.nil)
              go_simp
              refine (HP.out _ HZD.out).mono ?_
              rintro e6 w6 ⟨rfl, hb6⟩
              refine hK _ _ ?_
              clear hK K
              have HR6 := Lib.hid (HBR.out.drew.below HBR.out.lt hb6)
              have HG6 := Lib.hid (HBH.out.drew.below HBH.out.lt hb6)
              have HB6 := Lib.hid (HBB.out.trans (HZD.out.trans (hb6.mono HBB.out.size)))
              clear hb6
              refine wpAny_take (i := 8) (oi := ⟨some 23, _, _, _, _, _⟩) (v := .tuple #[frC_9 pf, .int .i64 (sn : Int)]) rfl (by kernel_rfl) (by kernel_rfl) (by kernel_rfl) (fun _ _ _ h => h) (Or.inl ⟨by rfl, fun _ => by go_simp⟩) ?_
              simp only [Act.put, sA, sZ, sS]
              refine wpAny_take (i := 9) (oi := ⟨some 32, _, _, _, _, _⟩) (v := frC_9 pf) rfl (by kernel_rfl) (by kernel_rfl) (by kernel_rfl) (fun _ _ _ h => h) (Or.inl ⟨by rfl, fun _ => by go_simp⟩) ?_
              simp only [Act.put, sA, sZ, sS]
              refine wpAny_take (i := 10) (oi := ⟨some 33, _, _, _, _, _⟩) (v := .int .i64 (sn : Int)) rfl (by kernel_rfl) (by kernel_rfl) (by kernel_rfl) (fun _ _ _ h => h) (Or.inl ⟨by rfl, fun _ => by go_simp⟩) ?_
              simp only [Act.put, sA, sZ, sS]
              refine wpAny_ready (rs := [11]) (by kernel_rfl) (by simp) (AllReady.cons (o := ⟨none, _, _, _, _, _⟩) rfl (fun K hK => ?_) AllReady.nil)
              refine step_storeR_9 rfl 65 _ _ rfl G (by rfl) (frL_9 pf) (by rfl) _ HG6.out (by rw [frL_len_9 HPO.out, frL_len_9 HO.out]) (sizeFrL_9 HPO.out) (frL_one_9 _) ?_
              refine hK _ _ ?_
              clear hK K
              have HR7 := Lib.hid (HR6.out.setRow_far (b := G) (Nat.ne_of_lt HG.out) (frL_9 pf).toArray)
              have HG7 := Lib.hid (HG6.out.setRow_ (frL_9 pf))
              have HB7 := Lib.hid (below_setRow HB6.out (Nat.le_of_lt HG.out) (frL_9 pf).toArray)
              clear HR6 HG6 HB6
              refine wpAny_take (i := 12) (oi := ⟨some 6, _, _, _, _, _⟩) (v := .int .i64 (sn : Int)) rfl (by kernel_rfl) (by kernel_rfl) (by kernel_rfl) (fun _ _ _ h => h) (Or.inl ⟨by rfl, fun _ => by go_simp⟩) ?_
              simp only [Act.put, sA, sZ, sS]
              refine wpAny_done (by kernel_rfl) ?_ _
              generalize w6.setRow G (frL_9 pf).toArray = w7 at *
              by_cases hsn : sn = 0
              · have n0 : ((sn : Int) != 0) = false := by simp; omega
                go_wp2_with fail
                go_roundg (gk - 1)
                case measure => have := HGH.out; have := HST.out hsn; omega
                case rel => exact ⟨stepK xs k, by have := HGH.out; have := HST.out hsn; show k.exts + 1 + (gk - 1) = 9; omega, HNX.out hsn, HFX.out hsn, HR7.out, by rw [← HPF.out hsn]; exact HG7.out, HB7.out⟩
              · have n1 : ((sn : Int) != 0) = true := by simp; omega
                have Q := Lib.hid (HSB.out hsn)
                go_wp2_with (first
                  | ((with_reducible show wpList _ _ _ _ _ _); refine wpList_buildTo rfl 65 _ rfl (some 36) rfl (frL_9 Fr_9.zero).toArray (by kernel_rfl) ?_)
                  | ((with_reducible show wpList _ _ _ _ _ _); refine wpList_storeR_9 rfl 65 (.tmp 2) (.tmp 36) rfl w.heap.size (by rfl) (frL_9 Fr_9.zero) (by rfl) _ HR7.out rfl (sizeFrL_9 HZO.out) (frL_one_9 _) ?_))
                refine bodyPost_ret (v := .tuple #[frC_9 Fr_9.zero, .int .i64 (sn : Int)]) (results_fr_9 rfl _ _ w.heap.size (by rfl) _ HZO.out (HR7.out.setRow_ _) _ (by rfl)) rfl ?_
                exact ⟨by rw [Q.out.1, Q.out.2], below_setRow HB7.out (Nat.le_refl _) _⟩
            exact AllReady.nil
          exact AllReady.nil
        refine AllReady.cons (o := ⟨some 29, _, _, _, _, _⟩) rfl (fun K hK => ?_) ?_
        · go_simp
          refine hK _ _ ?_
          clear hK K
          refine wpAny_ready (rs := [0, 3]) (by kernel_rfl) (by simp) ?_
          refine AllReady.cons (o := ⟨some 24, _, _, _, _, _⟩) rfl (fun K hK => ?_) ?_
          · rw [if_pos (by rfl)]
            refine wp_load_mid 65 _ rfl G 0 (by rfl) (frL_9 h) _ HBH.out.drew.range Try.underlying65 rfl (sizeFrL_9 HO.out) (hK _ _ ?_)
            simp only [Act.put, sA, sZ, sS]
            clear hK K
            refine wpAny_ready (rs := [3]) (by kernel_rfl) (by simp) ?_
            refine AllReady.cons (o := ⟨some 27, _, _, _, _, _⟩) rfl (fun K hK => ?_) ?_
            · go_simp
              refine hK _ _ ?_
              clear hK K
              refine wpAny_take (i := 6) (oi := ⟨some 30, _, _, _, _, _⟩) (v := .slice (cutA (some ⟨b, off, none⟩) cap hd) n (cap - hd)) rfl (by kernel_rfl) (by kernel_rfl) (by kernel_rfl) (fun _ _ _ h => h) (Or.inl ⟨by rfl, fun _ => by go_simp⟩) ?_
              simp only [Act.put, sA, sZ, sS]
              refine wpAny_ready (rs := [7]) (by kernel_rfl) (by simp) (AllReady.cons (o := ⟨some 31, _, _, _, _, _⟩) rfl (fun K hK => ?_) AllReady.nil)
              go_simp
              refine (HP.out _ HZD.out).mono ?_
              rintro e6 w6 ⟨rfl, hb6⟩
              refine hK _ _ ?_
              clear hK K
              have HR6 := Lib.hid (HBR.out.drew.below HBR.out.lt hb6)
              have HG6 := Lib.hid (HBH.out.drew.below HBH.out.lt hb6)
              have HB6 := Lib.hid (HBB.out.trans (HZD.out.trans (hb6.mono HBB.out.size)))
              clear hb6
              refine wpAny_take (i := 8) (oi := ⟨some 23, _, _, _, _, _⟩) (v := .tuple #[frC_9 pf, .int .i64 (sn : Int)]) rfl (by kernel_rfl) (by kernel_rfl) (by kernel_rfl) (fun _ _ _ h => h) (Or.inl ⟨by rfl, fun _ => by go_simp⟩) ?_
              simp only [Act.put, sA, sZ, sS]
              refine wpAny_take (i := 9) (oi := ⟨some 32, _, _, _, _, _⟩) (v := frC_9 pf) rfl (by kernel_rfl) (by kernel_rfl) (by kernel_rfl) (fun _ _ _ h => h) (Or.inl ⟨by rfl, fun _ => by go_simp⟩) ?_
              simp only [Act.put, sA, sZ, sS]
              refine wpAny_take (i := 10) (oi := ⟨some 33, _, _, _, _, _⟩) (v := .int .i64 (sn : Int)) rfl (by kernel_rfl) (by kernel_rfl) (by kernel_rfl) (fun _ _ _ h => h) (Or.inl ⟨by rfl, fun _ => by go_simp⟩) ?_
              simp only [Act.put, sA, sZ, sS]
              refine wpAny_ready (rs := [11]) (by kernel_rfl) (by simp) (AllReady.cons (o := ⟨none, _, _, _, _, _⟩) rfl (fun K hK => ?_) AllReady.nil)
              refine step_storeR_9 rfl 65 _ _ rfl G (by rfl) (frL_9 pf) (by rfl) _ HG6.out (by rw [frL_len_9 HPO.out, frL_len_9 HO.out]) (sizeFrL_9 HPO.out) (frL_one_9 _) ?_
              refine hK _ _ ?_
              clear hK K
              have HR7 := Lib.hid (HR6.out.setRow_far (b := G) (Nat.ne_of_lt HG.out) (frL_9 pf).toArray)
              have HG7 := Lib.hid (HG6.out.setRow_ (frL_9 pf))
              have HB7 := Lib.hid (below_setRow HB6.out (Nat.le_of_lt HG.out) (frL_9 pf).toArray)
              clear HR6 HG6 HB6
              refine wpAny_take (i := 12) (oi := ⟨some 6, _, _, _, _, _⟩) (v := .int .i64 (sn : Int)) rfl (by kernel_rfl) (by kernel_rfl) (by kernel_rfl) (fun _ _ _ h => h) (Or.inl ⟨by rfl, fun _ => by go_simp⟩) ?_
              simp only [Act.put, sA, sZ, sS]
              refine wpAny_done (by kernel_rfl) ?_ _
              generalize w6.setRow G (frL_9 pf).toArray = w7 at *
              by_cases hsn : sn = 0
              · have n0 : ((sn : Int) != 0) = false := by simp; omega
                go_wp2_with fail
                go_roundg (gk - 1)
                case measure => have := HGH.out; have := HST.out hsn; omega
                case rel => exact ⟨stepK xs k, by have := HGH.out; have := HST.out hsn; show k.exts + 1 + (gk - 1) = 9; omega, HNX.out hsn, HFX.out hsn, HR7.out, by rw [← HPF.out hsn]; exact HG7.out, HB7.out⟩
              · have n1 : ((sn : Int) != 0) = true := by simp; omega
                have Q := Lib.hid (HSB.out hsn)
                go_wp2_with (first
                  | ((with_reducible show wpList _ _ _ _ _ _); refine wpList_buildTo rfl 65 _ rfl (some 36) rfl (frL_9 Fr_9.zero).toArray (by kernel_rfl) ?_)
                  | ((with_reducible show wpList _ _ _ _ _ _); refine wpList_storeR_9 rfl 65 (.tmp 2) (.tmp 36) rfl w.heap.size (by rfl) (frL_9 Fr_9.zero) (by rfl) _ HR7.out rfl (sizeFrL_9 HZO.out) (frL_one_9 _) ?_))
                refine bodyPost_ret (v := .tuple #[frC_9 Fr_9.zero, .int .i64 (sn : Int)]) (results_fr_9 rfl _ _ w.heap.size (by rfl) _ HZO.out (HR7.out.setRow_ _) _ (by rfl)) rfl ?_
                exact ⟨by rw [Q.out.1, Q.out.2], below_setRow HB7.out (Nat.le_refl _) _⟩
            exact AllReady.nil
          refine AllReady.cons (o := ⟨some 27, _, _, _, _, _⟩) rfl (fun K hK => ?_) ?_
          · go_simp
            refine hK _ _ ?_
            clear hK K
            refine wpAny_take (i := 6) (oi := ⟨some 30, _, _, _, _, _⟩) (v := .slice (cutA (some ⟨b, off, none⟩) cap hd) n (cap - hd)) rfl (by kernel_rfl) (by kernel_rfl) (by kernel_rfl) (fun _ _ _ h => h) (Or.inl ⟨by rfl, fun _ => by go_simp⟩) ?_
            simp only [Act.put, sA, sZ, sS]
            refine wpAny_ready (rs := [0]) (by kernel_rfl) (by simp) ?_
            refine AllReady.cons (o := ⟨some 24, _, _, _, _, _⟩) rfl (fun K hK => ?_) ?_
            · rw [if_pos (by rfl)]
              refine wp_load_mid 65 _ rfl G 0 (by rfl) (frL_9 h) _ HBH.out.drew.range Try.underlying65 rfl (sizeFrL_9 HO.out) (hK _ _ ?_)
              simp only [Act.put, sA, sZ, sS]
              clear hK K
              refine wpAny_ready (rs := [7]) (by kernel_rfl) (by simp) (AllReady.cons (o := ⟨some 31, _, _, _, _, _⟩) rfl (fun K hK => ?_) AllReady.nil)
              go_simp
              refine (HP.out _ HZD.out).mono ?_
              rintro e6 w6 ⟨rfl, hb6⟩
              refine hK _ _ ?_
              clear hK K
              have HR6 := Lib.hid (HBR.out.drew.below HBR.out.lt hb6)
              have HG6 := Lib.hid (HBH.out.drew.below HBH.out.lt hb6)
              have HB6 := Lib.hid (HBB.out.trans (HZD.out.trans (hb6.mono HBB.out.size)))
              clear hb6
              refine wpAny_take (i := 8) (oi := ⟨some 23, _, _, _, _, _⟩) (v := .tuple #[frC_9 pf, .int .i64 (sn : Int)]) rfl (by kernel_rfl) (by kernel_rfl) (by kernel_rfl) (fun _ _ _ h => h) (Or.inl ⟨by rfl, fun _ => by go_simp⟩) ?_
              simp only [Act.put, sA, sZ, sS]
              refine wpAny_take (i := 9) (oi := ⟨some 32, _, _, _, _, _⟩) (v := frC_9 pf) rfl (by kernel_rfl) (by kernel_rfl) (by kernel_rfl) (fun _ _ _ h => h) (Or.inl ⟨by rfl, fun _ => by go_simp⟩) ?_
              simp only [Act.put, sA, sZ, sS]
              refine wpAny_take (i := 10) (oi := ⟨some 33, _, _, _, _, _⟩) (v := .int .i64 (sn : Int)) rfl (by kernel_rfl) (by kernel_rfl) (by kernel_rfl) (fun _ _ _ h => h) (Or.inl ⟨by rfl, fun _ => by go_simp⟩) ?_
              simp only [Act.put, sA, sZ, sS]
              refine wpAny_ready (rs := [11]) (by kernel_rfl) (by simp) (AllReady.cons (o := ⟨none, _, _, _, _, _⟩) rfl (fun K hK => ?_) AllReady.nil)
              refine step_storeR_9 rfl 65 _ _ rfl G (by rfl) (frL_9 pf) (by rfl) _ HG6.out (by rw [frL_len_9 HPO.out, frL_len_9 HO.out]) (sizeFrL_9 HPO.out) (frL_one_9 _) ?_
              refine hK _ _ ?_
              clear hK K
              have HR7 := Lib.hid (HR6.out.setRow_far (b := G) (Nat.ne_of_lt HG.out) (frL_9 pf).toArray)
              have HG7 := Lib.hid (HG6.out.setRow_ (frL_9 pf))
              have HB7 := Lib.hid (below_setRow HB6.out (Nat.le_of_lt HG.out) (frL_9 pf).toArray)
              clear HR6 HG6 HB6
              refine wpAny_take (i := 12) (oi := ⟨some 6, _, _, _, _, _⟩) (v := .int .i64 (sn : Int)) rfl (by kernel_rfl) (by kernel_rfl) (by kernel_rfl) (fun _ _ _ h => h) (Or.inl ⟨by rfl, fun _ => by go_simp⟩) ?_
              simp only [Act.put, sA, sZ, sS]
              refine wpAny_done (by kernel_rfl) ?_ _
              generalize w6.setRow G (frL_9 pf).toArray = w7 at *
              by_cases hsn : sn = 0
              · have n0 : ((sn : Int) != 0) = false := by simp; omega
                go_wp2_with fail
                go_roundg (gk - 1)
                case measure => have := HGH.out; have := HST.out hsn; omega
                case rel => exact ⟨stepK xs k, by have := HGH.out; have := HST.out hsn; show k.exts + 1 + (gk - 1) = 9; omega, HNX.out hsn, HFX.out hsn, HR7.out, by rw [← HPF.out hsn]; exact HG7.out, HB7.out⟩
              · have n1 : ((sn : Int) != 0) = true := by simp; omega
                have Q := Lib.hid (HSB.out hsn)
                go_wp2_with (first
                  | ((with_reducible show wpList _ _ _ _ _ _); refine wpList_buildTo rfl 65 _ rfl (some 36) rfl (frL_9 Fr_9.zero).toArray (by kernel_rfl) ?_)
                  | ((with_reducible show wpList _ _ _ _ _ _); refine wpList_storeR_9 rfl 65 (.tmp 2) (.tmp 36) rfl w.heap.size (by rfl) (frL_9 Fr_9.zero) (by rfl) _ HR7.out rfl (sizeFrL_9 HZO.out) (frL_one_9 _) ?_))
                refine bodyPost_ret (v := .tuple #[frC_9 Fr_9.zero, .int .i64 (sn : Int)]) (results_fr_9 rfl _ _ w.heap.size (by rfl) _ HZO.out (HR7.out.setRow_ _) _ (by rfl)) rfl ?_
                exact ⟨by rw [Q.out.1, Q.out.2], below_setRow HB7.out (Nat.le_refl _) _⟩
            exact AllReady.nil
          exact AllReady.nil
        exact AllReady.nil
      · have Q := Lib.hid (rd_end HF0.out HWK.out (Bool.eq_false_iff.2 hg))
        cases hx : extB k.proto with
        | false =>
          rw [hx] at HX
          clear hx hg HWK HFIT
          obtain ⟨h, hh⟩ : ∃ h, hdAt xs k = h := ⟨_, rfl⟩
          rw [hh] at HO HBH Q
          clear hh
          go_wp2_with fail
          refine (HX.out _).mono ?_
          rintro e w5 ⟨rfl, rfl⟩
          go_wp2_with (first
            | ((with_reducible show wpList _ _ _ _ _ _); refine wpList_loadF_9 rfl (.tmp 5) rfl G (by rfl) h HO.out HBH.out ?_)
            | ((with_reducible show wpList _ _ _ _ _ _); refine wpList_storeR_9 rfl 65 (.tmp 2) (.tmp 38) rfl w.heap.size (by rfl) (frL_9 h) (by rfl) _ HBR.out (by rw [frL_len_9 HO.out]; rfl) (sizeFrL_9 HO.out) (frL_one_9 _) ?_))
          refine bodyPost_ret (v := .tuple #[frC_9 h, .int .i64 0]) (results_fr_9 rfl _ _ w.heap.size (by rfl) _ HO.out (HBR.out.setRow_ _) _ (by rfl)) rfl ?_
          exact ⟨by rw [Q.out.1, Q.out.2]; rfl, below_setRow HBB.out (Nat.le_refl _) _⟩
        | true =>
          have hfr : k.frag = true := by
            unfold goB at hg
            rw [hx] at hg
            simpa using hg
          rw [hfr] at c3
          rw [hx] at HX
          clear hx hg hfr HWK HFIT
          obtain ⟨h, hh⟩ : ∃ h, hdAt xs k = h := ⟨_, rfl⟩
          rw [hh] at HO HBH Q
          clear hh
          go_wp2_with fail
          refine (HX.out _).mono ?_
          rintro e w5 ⟨rfl, rfl⟩
          go_wp2_with (first
            | ((with_reducible show wpList _ _ _ _ _ _); refine wpList_loadF_9 rfl (.tmp 5) rfl G (by rfl) h HO.out HBH.out ?_)
            | ((with_reducible show wpList _ _ _ _ _ _); refine wpList_storeR_9 rfl 65 (.tmp 2) (.tmp 38) rfl w.heap.size (by rfl) (frL_9 h) (by rfl) _ HBR.out (by rw [frL_len_9 HO.out]; rfl) (sizeFrL_9 HO.out) (frL_one_9 _) ?_))
          refine bodyPost_ret (v := .tuple #[frC_9 h, .int .i64 0]) (results_fr_9 rfl _ _ w.heap.size (by rfl) _ HO.out (HBR.out.setRow_ _) _ (by rfl)) rfl ?_
          exact ⟨by rw [Q.out.1, Q.out.2]; rfl, below_setRow HBB.out (Nat.le_refl _) _⟩
  · rw [rdF_bad h0, rdN_bad h0]
    have hle := faultN_le_9 xs
    obtain ⟨F, hF⟩ : ∃ F, faultN_9 xs = F := ⟨_, rfl⟩
    rw [hF] at h0 HF hle ⊢
    have n1 : ((F : Int) != 0) = true := by simp; omega
    clear hF
    go_enter Try.func55, Try.ntmps55
    go_wp2_with fail
    rw [HZ.out]
    refine HF.out.mono ?_
    rintro e w0 ⟨rfl, hb0⟩
    have HR1 := Lib.hid (HR0.out.below HR0.out.lt hb0)
    have HB1 := Lib.hid (HB0.out.trans (hb0.mono HB0.out.size))
    clear hb0
    go_wp2_with (first
      | ((with_reducible show wpList _ _ _ _ _ _); refine wpList_buildTo rfl 65 _ rfl (some 11) rfl (frL_9 Fr_9.zero).toArray (by kernel_rfl) ?_)
      | ((with_reducible show wpList _ _ _ _ _ _); refine wpList_storeR_9 rfl 65 (.tmp 2) (.tmp 11) rfl w.heap.size (by rfl) (frL_9 Fr_9.zero) (by rfl) _ HR1.out rfl (sizeFrL_9 HZO.out) (frL_one_9 _) ?_))
    refine bodyPost_ret (v := .tuple #[frC_9 Fr_9.zero, .int .i64 (F : Int)]) (results_fr_9 rfl _ _ w.heap.size (by rfl) _ HZO.out (HR1.out.setRow_ _) _ (by rfl)) rfl ?_
    exact ⟨rfl, below_setRow HB1.out (Nat.le_refl _) _⟩
end
section
open Go.RowKit Go.Lib
/-- An address of which the first bytes are known, the others 0. -/
def adP_9 (ys : List UInt8) : Ad := ⟨true, ys ++ List.replicate (16 - ys.length) 0⟩
theorem adP_nil_9 : adP_9 [] = Ad.six0 := rfl
theorem adP_cell_9 {ys : List UInt8} (h : ys.length < 16) : (adL (adP_9 ys))[1 + ys.length]? = some (.int .u8 0) := by
  show (Value.bool true :: (ys ++ List.replicate (16 - ys.length) 0).map v8)[1 + ys.length]? = _
  rw [Nat.add_comm, List.getElem?_cons_succ, List.getElem?_map, List.getElem?_append_right (Nat.le_refl _), Nat.sub_self, List.getElem?_replicate, if_pos (by omega)]
  rfl
theorem adP_set_9 {ys : List UInt8} (h : ys.length < 16) (x : UInt8) : (adL (adP_9 ys)).set (1 + ys.length) (v8 x) = adL (adP_9 (ys ++ [x])) := by
  show (Value.bool true :: (ys ++ List.replicate (16 - ys.length) 0).map v8).set (1 + ys.length) (v8 x) = Value.bool true :: ((ys ++ [x]) ++ List.replicate (16 - (ys ++ [x]).length) 0).map v8
  rw [Nat.add_comm, List.set_cons_succ]
  congr 1
  rw [List.map_append, List.set_append_right _ _ (by rw [List.length_map]; exact Nat.le_refl _), List.length_map, Nat.sub_self, show 16 - ys.length = (16 - (ys ++ [x]).length) + 1 by rw [List.length_append, List.length_singleton]; omega, List.replicate_succ, List.map_cons, List.set_cons_zero]
  simp
theorem adP_full {xs : List UInt8} (p : Nat) (h : p + 16 ≤ xs.length) : adP_9 ((xs.drop p).take 16) = adOf_9 xs p := by
  unfold adP_9 adOf_9 ad16
  rw [List.length_take, List.length_drop, Nat.min_eq_left (by omega)]
  simp
set_option maxRecDepth 100000 in
set_option maxHeartbeats 2000000 in
theorem raddr_any_9 {A : Option Addr} {len : Nat} {cap p : Nat} {xs : List UInt8} (z : Int) (hz : z = (p : Int)) (hlen : len ≤ 1000000000) (h : p + 16 ≤ len) {w : World} {B : Nat} (hBw : B ≤ w.heap.size) (hI : Rd w B A len xs) :
    Calls Try.prog 46 #[.slice A len cap, .int .i64 z] w fun e w' => e = .returned (adC (adOf_9 xs p)) ∧ Below w.heap.size w w' := by
  subst hz
  have HL := Lib.hid hI.len
  obtain ⟨Z, hZ⟩ : ∃ Z : World, (w.alloc (.cells (adL Ad.zero).toArray 25)).alloc (.cells (adL Ad.zero).toArray 25) = Z := ⟨_, rfl⟩
  have b1 : Blk_9 Z 25 w.heap.size (adL Ad.zero) := by rw [← hZ]; exact (Blk_9.new w _ _).alloc _
  have b2 : Blk_9 Z 25 (w.heap.size + 1) (adL Ad.zero) := by
    rw [← hZ]
    have := Blk_9.new (w.alloc (.cells (adL Ad.zero).toArray 25)) 25 (adL Ad.zero)
    simpa using this
  have hB0 : Below w.heap.size w Z := by rw [← hZ]; exact ((Below.refl w.heap.size w).alloc (Nat.le_refl _) _).alloc (by simp) _
  have b3 := b2.setRow_ (adL Ad.six0)
  have b4 := b1.setRow_far (b := w.heap.size + 1) (by omega) (adL Ad.six0).toArray
  have b5 := below_setRow hB0 (Nat.le_succ w.heap.size) (adL Ad.six0).toArray
  obtain ⟨Y, hY⟩ : ∃ Y, Z.setRow (w.heap.size + 1) (adL Ad.six0).toArray = Y := ⟨_, rfl⟩
  rw [hY] at b3 b4 b5
  rw [← zeroP_9] at hZ
  have HZ := Lib.hid hZ
  have HY := Lib.hid hY
  have HBZ := Lib.hid b2
  clear hZ hY b1 b2 hB0
  have b1 := b4
  have b2 := b3
  have hB0 := b5
  clear b3 b4 b5
  go_enter Try.func46, Try.ntmps46
  go_wp2_with (first
    | ((with_reducible show wpList _ _ _ _ _ _); refine wpList_buildTo rfl 25 _ rfl (some 7) rfl (adL Ad.six0).toArray (by kernel_rfl) ?_)
    | ((with_reducible show wpList _ _ _ _ _ _); rw [HZ.out]; refine wpList_storeR_9 rfl 25 (.tmp 5) (.tmp 7) rfl (w.heap.size + 1) (by rfl) (adL Ad.six0) (by rfl) _ HBZ.out rfl (sizeAdL rfl) (adL_one _) ?_; rw [HY.out]))
  go_loopw [6] (fun i wr => ∃ (k : Nat) (ys : List UInt8), k ≤ 16 ∧ i = .int .i64 (k : Int) ∧ ys = (xs.drop p).take k ∧ ys.length = k ∧ Blk_9 wr 25 w.heap.size (adL Ad.zero) ∧ Blk_9 wr 25 (w.heap.size + 1) (adL (adP_9 ys)) ∧ Below w.heap.size w wr) (fun i _ => 16 - (intOf i).toNat)
  case atStart => exact ⟨0, [], by omega, rfl, by rw [List.take_zero], rfl, b1, by rw [adP_nil_9]; exact b2, hB0⟩
  case round =>
    clear b1 b2 hB0
    obtain ⟨k, ys, hk, rfl, hys, hyl, b1, b2, hB⟩ := hrel
    have HB1 := Lib.hid b1
    by_cases hlt : k < 16
    · have hlt' : (k : Int) < 16 := by omega
      have hr := hI.below (hB.mono hBw)
      obtain ⟨b, off, rfl, hb⟩ := hr.addr (by omega)
      have hx : p + k < xs.length := by rw [HL.out]; omega
      have hc := hr.cell (k := p + k) (by omega)
      obtain ⟨x, hxx⟩ : ∃ x, xs[p + k] = x := ⟨_, rfl⟩
      rw [hxx] at hc
      have hys2 : ys ++ [x] = (xs.drop p).take (k + 1) := by
        rw [hys, List.take_succ_eq_append_getElem (by rw [List.length_drop]; omega), List.getElem_drop, hxx]
      have l1 : (p : Int) + (k : Int) < (len : Int) := by omega
      have t1 : ((p : Int) + (k : Int)).toNat = p + k := by omega
      have hw : IntKind.i64.wrap ((p : Int) + (k : Int)) = (p : Int) + (k : Int) := by rw [IntKind.wrap_i64]; omega
      have hc1 : wr.cell? ⟨w.heap.size + 1, 1 + k, none⟩ = some (.int .u8 0) := b2.cell (by have := adP_cell_9 (ys := ys) (by omega); rwa [hyl] at this)
      have hf1 := b2.frozen (1 + k)
      have b2' := b2.set (1 + k) (v8 x)
      rw [show (adL (adP_9 ys)).set (1 + k) (v8 x) = adL (adP_9 (ys ++ [x])) by have := adP_set_9 (ys := ys) (by omega) x; rwa [hyl] at this] at b2'
      have B2 := Lib.hid b2'
      have hB' := Lib.hid (hB.setCell (p := ⟨w.heap.size + 1, 1 + k, none⟩) (by simp) (v8 x))
      have b1' := Lib.hid (HB1.out.far (p := ⟨w.heap.size + 1, 1 + k, none⟩) (by simp) (v8 x))
      have HY := Lib.hid hys2
      have HYL := Lib.hid hyl
      clear b1 b2 b2' hys hys2 hyl hxx hx hB hr
      go_wp2_with fail
      go_roundw
      case rel => exact ⟨k + 1, ys ++ [x], by omega, by go_num, HY.out, by rw [List.length_append, HYL.out]; rfl, b1'.out, B2.out, hB'.out⟩
      case measure => simp [intOf]; omega
    · obtain rfl : k = 16 := by omega
      rw [hys, adP_full p (by rw [HL.out]; exact h)] at b2
      have hl := adOf_len_9 xs p (by rw [HL.out]; exact h)
      have HB2 := Lib.hid b2
      have HBB := Lib.hid hB
      clear b1 b2 hys hyl hB hlt
      go_wp2_with (first
        | ((with_reducible show wpList _ _ _ _ _ _); refine wpList_load_mid rfl 25 _ rfl (w.heap.size + 1) 0 (by rfl) (adL (adOf_9 xs p)) _ HB2.out.range Try.underlying25 rfl (sizeAdL hl) ?_)
        | ((with_reducible show wpList _ _ _ _ _ _); refine wpList_storeR_9 rfl 25 _ _ rfl w.heap.size (by rfl) (adL (adOf_9 xs p)) (by rfl) _ HB1.out (by rw [adL_len hl]; rfl) (sizeAdL hl) (adL_one _) ?_))
      refine bodyPost_ret (v := adC (adOf_9 xs p)) (results_ad_9 rfl _ _ w.heap.size (by rfl) _ hl (HB1.out.setRow_ _)) rfl ?_
      exact ⟨rfl, below_setRow HBB.out (Nat.le_refl _) _⟩
end
section
open Go.RowKit Go.Lib
theorem cut_world {goal : Prop} {H : World → Nat → Prop} {M : World → Nat → Prop} (h1 : (∀ W G, H W G → M W G) → goal) (h2 : ∀ W G, H W G → M W G) : goal := h1 h2
set_option maxRecDepth 100000 in
set_option maxHeartbeats 4000000 in
theorem rread_any_9 (A : Option Addr) (len cap : Nat) (xs : List UInt8) (hlen : len ≤ 1000000) (w : World) (hI : Rd w w.heap.size A len xs) :
    Calls Try.prog 33 #[.slice A len cap] w (ReadGave_9 w (rdF_9 xs) (rdN xs)) := by
  have HL := Lib.hid hI.len
  have HIW := Lib.hid hI
  obtain ⟨Z, hZ⟩ : ∃ Z : World, w.alloc (.cells (frL_9 Fr_9.zero).toArray 65) = Z := ⟨_, rfl⟩
  have hR0 : Blk_9 Z 65 w.heap.size (frL_9 Fr_9.zero) := by rw [← hZ]; exact Blk_9.new w _ _
  have hB0 : Below w.heap.size w Z := by rw [← hZ]; exact (Below.refl w.heap.size w).alloc (Nat.le_refl _) _
  rw [← zeroF_9] at hZ
  have HZ := Lib.hid hZ
  have HI0 := Lib.hid (hI.below hB0)
  have HR0 := Lib.hid hR0
  have HB0 := Lib.hid hB0
  have HZO := Lib.hid Fr_9.ok_zero
  clear hZ hI hR0 hB0
  by_cases h40 : 40 ≤ len
  · have h40' : ¬ (len : Int) < 40 := by omega
    obtain ⟨b, off, rfl, _⟩ := HI0.out.addr (by omega)
    have c0 := HI0.out.cellD (k := 0) (by omega)
    rw [Nat.add_zero] at c0
    rw [← HZ.out] at c0
    have l0 : (0 : Int) < (len : Int) := by omega
    have hx0 := batN_lt xs 0
    have F1 := Lib.hid (fun (h : batN xs 0 / 16 ≠ 6) => fault_form_9 (xs := xs) (by rw [HL.out]; exact h40) h)
    have F2 := Lib.hid (fun (h1 : batN xs 0 / 16 = 6) (h3 : len < totN_9 xs) => fault_more_9 (xs := xs) (by rw [HL.out]; exact h40) h1 (by rw [HL.out]; exact h3))
    have F3 := Lib.hid (fun (h1 : batN xs 0 / 16 = 6) (h3 : totN_9 xs ≤ len) => fault_no_9 (xs := xs) (by rw [HL.out]; exact h40) h1 (by rw [HL.out]; exact h3))
    have HNB := Lib.hid (fun h : faultN_9 xs ≠ 0 => rdN_bad h)
    have HFB := Lib.hid (fun h : faultN_9 xs ≠ 0 => rdF_bad h)
    generalize hx0g : batN xs 0 = x0 at *
    by_cases hv : x0 / 16 = 6
    · have v1 : ((x0 : Int) / 16 != 6) = false := by simp; omega
      have hv' := Lib.hid hv
      clear hv hx0g
      have hOK := hdAt_ok xs (wk0 xs) (by rw [HL.out]; exact h40)
      have HOK := Lib.hid (fun k : Wk => hdAt_ok xs k (by rw [HL.out]; exact h40))
      have htn : ((totN_9 xs : Nat) : Int) = 40 + 256 * (batN xs 4 : Int) + (batN xs 5 : Int) := by have e : wat xs 4 = 256 * batN xs 4 + batN xs 5 := rfl; unfold totN_9; omega
      have hBU := built_at2 40 (totN_9 xs : Nat) (batN xs 7 : Nat) (batN xs 6 : Nat) (adOf_9 xs 8) (adOf_9 xs 24) hOK.s hOK.d
      rw [← hd0_eq, htn] at hBU
      have HBU := Lib.hid hBU
      have HOK0 := Lib.hid hOK
      clear hBU hOK
      have X4 := batN_lt xs 4
      have X5 := batN_lt xs 5
      have X6 := batN_lt xs 6
      have X7 := batN_lt xs 7
      have C4 := Lib.hid (fun W (hW : Below w.heap.size Z W) => (HI0.out.below hW).cellD (k := 4) (by omega))
      have C5 := Lib.hid (fun W (hW : Below w.heap.size Z W) => (HI0.out.below hW).cellD (k := 5) (by omega))
      have C6 := Lib.hid (fun W (hW : Below w.heap.size Z W) => (HI0.out.below hW).cellD (k := 6) (by omega))
      have C7 := Lib.hid (fun W (hW : Below w.heap.size Z W) => (HI0.out.below hW).cellD (k := 7) (by omega))
      have HA8 := Lib.hid (fun W (hW : Below w.heap.size Z W) => raddr_any_9 (p := 8) (cap := cap) 8 rfl (by omega) (by omega) (Nat.le_trans HB0.out.size hW.size) (HI0.out.below hW))
      have HA24 := Lib.hid (fun W (hW : Below w.heap.size Z W) => raddr_any_9 (p := 24) (cap := cap) 24 rfl (by omega) (by omega) (Nat.le_trans HB0.out.size hW.size) (HI0.out.below hW))
      obtain ⟨f0, hf0⟩ : ∃ f0, hdAt xs (wk0 xs) = f0 := ⟨_, rfl⟩
      rw [hf0] at HBU HOK0
      have Hf0 := Lib.hid hf0
      clear hf0
      have HTN := Lib.hid htn
      clear htn
      generalize adOf_9 xs 8 = a8 at *
      generalize adOf_9 xs 24 = a24 at *
      generalize batN xs 4 = x4 at *
      generalize batN xs 5 = x5 at *
      generalize batN xs 6 = x6 at *
      generalize batN xs 7 = x7 at *
      have l4 : (4 : Int) < (len : Int) := by omega
      have l5 : (5 : Int) < (len : Int) := by omega
      have l6 : (6 : Int) < (len : Int) := by omega
      have l7 : (7 : Int) < (len : Int) := by omega
      have s4 : IntKind.i64.wrap (x4 : Int) = (x4 : Int) := by rw [IntKind.wrap_i64]; omega
      have s5 : IntKind.i64.wrap (x5 : Int) = (x5 : Int) := by rw [IntKind.wrap_i64]; omega
      have s6 : IntKind.i64.wrap (x6 : Int) = (x6 : Int) := by rw [IntKind.wrap_i64]; omega
      have s7 : IntKind.i64.wrap (x7 : Int) = (x7 : Int) := by rw [IntKind.wrap_i64]; omega
      have s8 : IntKind.i64.wrap (256 * (x4 : Int)) = 256 * (x4 : Int) := by rw [IntKind.wrap_i64]; omega
      have s9 : IntKind.i64.wrap (40 + 256 * (x4 : Int)) = 40 + 256 * (x4 : Int) := by rw [IntKind.wrap_i64]; omega
      have sa : IntKind.i64.wrap (40 + 256 * (x4 : Int) + (x5 : Int)) = 40 + 256 * (x4 : Int) + (x5 : Int) := by rw [IntKind.wrap_i64]; omega
      go_enter Try.func33, Try.ntmps33
      go_wp2_with fail
      rw [HZ.out]
      apply cut_world (H := fun W G => w.heap.size < G ∧ Blk_9 W 65 G (frL_9 f0) ∧ Blk_9 W 65 w.heap.size (frL_9 Fr_9.zero) ∧ Below w.heap.size w W)
      case h1 =>
        intro hc
        refine wp_region_held_drew (S := fun W => Below w.heap.size Z W) (by kernel_rfl) (Below.refl _ _).drew (fun hHeld => ?_)
        have HRY : Hid (Blk_9 Z.drew 65 w.heap.size (frL_9 Fr_9.zero)) := Lib.hid HR0.out
        obtain ⟨Y, hY⟩ : ∃ Y, Z.drew = Y := ⟨_, rfl⟩
        rw [hY] at HRY hHeld ⊢
        clear hY
        refine tk 0 16 (.slice (some ⟨b, off, none⟩) len cap) rfl hHeld ?_
        simp only [Act.put, sA, sZ, sS]
        refine tk 1 17 (.pointer (some ⟨b, off + 4, none⟩)) rfl hHeld ?_
        simp only [Act.put, sA, sZ, sS]
        refine tkY 2 18 (.int .u8 (x4 : Int)) rfl (Or.inl ⟨by rfl, fun W hW => by have hc := C4.out W hW; go_simp⟩) hHeld ?_
        simp only [Act.put, sA, sZ, sS]
        refine tk 3 19 (.int .i64 (x4 : Int)) rfl hHeld ?_
        simp only [Act.put, sA, sZ, sS]
        refine tk 4 20 (.int .i64 (256 * (x4 : Int))) rfl hHeld ?_
        simp only [Act.put, sA, sZ, sS]
        refine tk 5 21 (.int .i64 (40 + 256 * (x4 : Int))) rfl hHeld ?_
        simp only [Act.put, sA, sZ, sS]
        refine tk 6 22 (.slice (some ⟨b, off, none⟩) len cap) rfl hHeld ?_
        simp only [Act.put, sA, sZ, sS]
        refine tk 7 23 (.pointer (some ⟨b, off + 5, none⟩)) rfl hHeld ?_
        simp only [Act.put, sA, sZ, sS]
        refine tkY 8 24 (.int .u8 (x5 : Int)) rfl (Or.inl ⟨by rfl, fun W hW => by have hc := C5.out W hW; go_simp⟩) hHeld ?_
        simp only [Act.put, sA, sZ, sS]
        refine tk 9 25 (.int .i64 (x5 : Int)) rfl hHeld ?_
        simp only [Act.put, sA, sZ, sS]
        refine tk 10 26 (.int .i64 (40 + 256 * (x4 : Int) + (x5 : Int))) rfl hHeld ?_
        simp only [Act.put, sA, sZ, sS]
        refine tk 11 27 (.slice (some ⟨b, off, none⟩) len cap) rfl hHeld ?_
        simp only [Act.put, sA, sZ, sS]
        refine tk 12 28 (.pointer (some ⟨b, off + 6, none⟩)) rfl hHeld ?_
        simp only [Act.put, sA, sZ, sS]
        refine tkY 13 29 (.int .u8 (x6 : Int)) rfl (Or.inl ⟨by rfl, fun W hW => by have hc := C6.out W hW; go_simp⟩) hHeld ?_
        simp only [Act.put, sA, sZ, sS]
        refine tk 14 30 (.int .i64 (x6 : Int)) rfl hHeld ?_
        simp only [Act.put, sA, sZ, sS]
        refine tk 15 31 (.slice (some ⟨b, off, none⟩) len cap) rfl hHeld ?_
        simp only [Act.put, sA, sZ, sS]
        refine tk 16 32 (.pointer (some ⟨b, off + 7, none⟩)) rfl hHeld ?_
        simp only [Act.put, sA, sZ, sS]
        refine tkY 17 33 (.int .u8 (x7 : Int)) rfl (Or.inl ⟨by rfl, fun W hW => by have hc := C7.out W hW; go_simp⟩) hHeld ?_
        simp only [Act.put, sA, sZ, sS]
        refine tk 18 34 (.int .i64 (x7 : Int)) rfl hHeld ?_
        simp only [Act.put, sA, sZ, sS]
        refine tk 19 35 (.slice (some ⟨b, off, none⟩) len cap) rfl hHeld ?_
        simp only [Act.put, sA, sZ, sS]
        refine tk 21 37 (.slice (some ⟨b, off, none⟩) len cap) rfl hHeld ?_
        simp only [Act.put, sA, sZ, sS]
        refine wpAnyH_ready (rs := [20, 24]) (by kernel_rfl) (by simp) ?_
        refine AllReadyH.cons (o := ⟨some 36, _, _, _, _, _⟩) rfl (fun K hK => ?_) ?_
        · skip
          go_simp
          refine (HA8.out _ hHeld).mono ?_
          rintro e3 w3 ⟨rfl, hb3⟩
          have HR3 := Lib.hid (HRY.out.below HRY.out.lt hb3)
          refine hK.out _ _ (hHeld.trans (hb3.mono (Nat.le_trans HB0.out.size hHeld.size))) (fun hHeld => ?_)
          clear hK K hb3
          refine wpAnyH_ready (rs := [22, 24]) (by kernel_rfl) (by simp) ?_
          refine AllReadyH.cons (o := ⟨some 38, _, _, _, _, _⟩) rfl (fun K hK => ?_) ?_
          · skip
            go_simp
            refine (HA24.out _ hHeld).mono ?_
            rintro e4 w4 ⟨rfl, hb4⟩
            have HR4 := Lib.hid (HR3.out.below HR3.out.lt hb4)
            refine hK.out _ _ (hHeld.trans (hb4.mono (Nat.le_trans HB0.out.size hHeld.size))) (fun hHeld => ?_)
            clear hK K hb4
            refine tkY 23 39 (.agg (frL_9 f0).toArray) rfl (yields_build (by rfl) 65 _ rfl _ (by kernel_rfl) _ HBU.out) hHeld ?_
            simp only [Act.put, sA, sZ, sS]
            refine wpAnyH_ready (rs := [24]) (by kernel_rfl) (by simp) ?_
            refine AllReadyH.cons (o := ⟨some 4, _, _, _, _, _⟩) rfl (fun K hK => ?_) ?_
            · skip
              go_simp
              rw [zeroF_9]
              have hn := Blk_9.new w4 65 (frL_9 Fr_9.zero)
              have hr := HR4.out.alloc (.cells (frL_9 Fr_9.zero).toArray 65)
              have hh := hHeld.alloc (Nat.le_trans HB0.out.size hHeld.size) (.cells (frL_9 Fr_9.zero).toArray 65)
              have hgt := HR4.out.lt
              generalize w4.alloc (.cells (frL_9 Fr_9.zero).toArray 65) = wa at hn hr hh ⊢
              generalize w4.heap.size = G at hn hgt ⊢
              have HGa := Lib.hid hn
              have HRa := Lib.hid hr
              have HGT := Lib.hid hgt
              clear hn hr hgt
              refine hK.out _ _ hh (fun hHeld => ?_)
              clear hK K hh
              refine wpAnyH_ready (rs := [25]) (by kernel_rfl) (by simp) (AllReadyH.cons (o := ⟨none, _, _, _, _, _⟩) rfl (fun K hK => ?_) AllReadyH.nil)
              refine step_storeR_9 rfl 65 _ _ rfl G (by rfl) (frL_9 f0) (by rfl) _ HGa.out (by rw [frL_len_9 HOK0.out]; rfl) (sizeFrL_9 HOK0.out) (frL_one_9 _) ?_
              have hq := Lib.hid (HGa.out.setRow_ (frL_9 f0))
              have hr := Lib.hid (HRa.out.setRow_far (b := G) (Nat.ne_of_lt HGT.out) (frL_9 f0).toArray)
              have hh := below_setRow hHeld (Nat.le_of_lt HGT.out) (frL_9 f0).toArray
              refine hK.out _ _ hh (fun hHeld => ?_)
              clear hK K
              refine wpAnyH_done (by kernel_rfl) ?_ _
              generalize World.setRow _ G (frL_9 f0).toArray = wz at hq hr hh ⊢
              exact hc wz G ⟨HGT.out, hq.out, hr.out, HB0.out.trans hh⟩
            exact AllReadyH.nil
          refine AllReadyH.cons (o := ⟨some 4, _, _, _, _, _⟩) rfl (fun K hK => ?_) ?_
          · skip
            go_simp
            rw [zeroF_9]
            have hn := Blk_9.new w3 65 (frL_9 Fr_9.zero)
            have hr := HR3.out.alloc (.cells (frL_9 Fr_9.zero).toArray 65)
            have hh := hHeld.alloc (Nat.le_trans HB0.out.size hHeld.size) (.cells (frL_9 Fr_9.zero).toArray 65)
            have hgt := HR3.out.lt
            generalize w3.alloc (.cells (frL_9 Fr_9.zero).toArray 65) = wa at hn hr hh ⊢
            generalize w3.heap.size = G at hn hgt ⊢
            have HGa := Lib.hid hn
            have HRa := Lib.hid hr
            have HGT := Lib.hid hgt
            clear hn hr hgt
            refine hK.out _ _ hh (fun hHeld => ?_)
            clear hK K hh
            refine wpAnyH_ready (rs := [22]) (by kernel_rfl) (by simp) ?_
            refine AllReadyH.cons (o := ⟨some 38, _, _, _, _, _⟩) rfl (fun K hK => ?_) ?_
            · skip
              go_simp
              refine (HA24.out _ hHeld).mono ?_
              rintro e4 w4 ⟨rfl, hb4⟩
              have HR4 := Lib.hid (HRa.out.below HRa.out.lt hb4)
              have HG4 := Lib.hid (HGa.out.below HGa.out.lt hb4)
              refine hK.out _ _ (hHeld.trans (hb4.mono (Nat.le_trans HB0.out.size hHeld.size))) (fun hHeld => ?_)
              clear hK K hb4
              refine tkY 23 39 (.agg (frL_9 f0).toArray) rfl (yields_build (by rfl) 65 _ rfl _ (by kernel_rfl) _ HBU.out) hHeld ?_
              simp only [Act.put, sA, sZ, sS]
              refine wpAnyH_ready (rs := [25]) (by kernel_rfl) (by simp) (AllReadyH.cons (o := ⟨none, _, _, _, _, _⟩) rfl (fun K hK => ?_) AllReadyH.nil)
              refine step_storeR_9 rfl 65 _ _ rfl G (by rfl) (frL_9 f0) (by rfl) _ HG4.out (by rw [frL_len_9 HOK0.out]; rfl) (sizeFrL_9 HOK0.out) (frL_one_9 _) ?_
              have hq := Lib.hid (HG4.out.setRow_ (frL_9 f0))
              have hr := Lib.hid (HR4.out.setRow_far (b := G) (Nat.ne_of_lt HGT.out) (frL_9 f0).toArray)
              have hh := below_setRow hHeld (Nat.le_of_lt HGT.out) (frL_9 f0).toArray
              refine hK.out _ _ hh (fun hHeld => ?_)
              clear hK K
              refine wpAnyH_done (by kernel_rfl) ?_ _
              generalize World.setRow _ G (frL_9 f0).toArray = wz at hq hr hh ⊢
              exact hc wz G ⟨HGT.out, hq.out, hr.out, HB0.out.trans hh⟩
            exact AllReadyH.nil
          exact AllReadyH.nil
        refine AllReadyH.cons (o := ⟨some 4, _, _, _, _, _⟩) rfl (fun K hK => ?_) ?_
        · skip
          go_simp
          rw [zeroF_9]
          have hn := Blk_9.new Y 65 (frL_9 Fr_9.zero)
          have hr := HRY.out.alloc (.cells (frL_9 Fr_9.zero).toArray 65)
          have hh := hHeld.alloc (Nat.le_trans HB0.out.size hHeld.size) (.cells (frL_9 Fr_9.zero).toArray 65)
          have hgt := HRY.out.lt
          generalize Y.alloc (.cells (frL_9 Fr_9.zero).toArray 65) = wa at hn hr hh ⊢
          generalize Y.heap.size = G at hn hgt ⊢
          have HGa := Lib.hid hn
          have HRa := Lib.hid hr
          have HGT := Lib.hid hgt
          clear hn hr hgt
          refine hK.out _ _ hh (fun hHeld => ?_)
          clear hK K hh
          refine wpAnyH_ready (rs := [20]) (by kernel_rfl) (by simp) ?_
          refine AllReadyH.cons (o := ⟨some 36, _, _, _, _, _⟩) rfl (fun K hK => ?_) ?_
          · skip
            go_simp
            refine (HA8.out _ hHeld).mono ?_
            rintro e3 w3 ⟨rfl, hb3⟩
            have HR3 := Lib.hid (HRa.out.below HRa.out.lt hb3)
            have HG3 := Lib.hid (HGa.out.below HGa.out.lt hb3)
            refine hK.out _ _ (hHeld.trans (hb3.mono (Nat.le_trans HB0.out.size hHeld.size))) (fun hHeld => ?_)
            clear hK K hb3
            refine wpAnyH_ready (rs := [22]) (by kernel_rfl) (by simp) ?_
            refine AllReadyH.cons (o := ⟨some 38, _, _, _, _, _⟩) rfl (fun K hK => ?_) ?_
            · skip
              go_simp
              refine (HA24.out _ hHeld).mono ?_
              rintro e4 w4 ⟨rfl, hb4⟩
              have HR4 := Lib.hid (HR3.out.below HR3.out.lt hb4)
              have HG4 := Lib.hid (HG3.out.below HG3.out.lt hb4)
              refine hK.out _ _ (hHeld.trans (hb4.mono (Nat.le_trans HB0.out.size hHeld.size))) (fun hHeld => ?_)
              clear hK K hb4
              refine tkY 23 39 (.agg (frL_9 f0).toArray) rfl (yields_build (by rfl) 65 _ rfl _ (by kernel_rfl) _ HBU.out) hHeld ?_
              simp only [Act.put, sA, sZ, sS]
              refine wpAnyH_ready (rs := [25]) (by kernel_rfl) (by simp) (AllReadyH.cons (o := ⟨none, _, _, _, _, _⟩) rfl (fun K hK => ?_) AllReadyH.nil)
              refine step_storeR_9 rfl 65 _ _ rfl G (by rfl) (frL_9 f0) (by rfl) _ HG4.out (by rw [frL_len_9 HOK0.out]; rfl) (sizeFrL_9 HOK0.out) (frL_one_9 _) ?_
              have hq := Lib.hid (HG4.out.setRow_ (frL_9 f0))
              have hr := Lib.hid (HR4.out.setRow_far (b := G) (Nat.ne_of_lt HGT.out) (frL_9 f0).toArray)
              have hh := below_setRow hHeld (Nat.le_of_lt HGT.out) (frL_9 f0).toArray
              refine hK.out _ _ hh (fun hHeld => ?_)
              clear hK K
              refine wpAnyH_done (by kernel_rfl) ?_ _
              generalize World.setRow _ G (frL_9 f0).toArray = wz at hq hr hh ⊢
              exact hc wz G ⟨HGT.out, hq.out, hr.out, HB0.out.trans hh⟩
            exact AllReadyH.nil
          exact AllReadyH.nil
        exact AllReadyH.nil
      case h2 =>
        intro wz G hcc
        obtain ⟨hgt, hq, hr, hb⟩ := hcc
        have c1 := hq.cell (i := 1) (v := .int .i64 f0.total) rfl
        rw [show f0.total = ((totN_9 xs : Nat) : Int) by rw [← Hf0.out]; rfl] at c1
        rw [← Hf0.out] at hq
        have HGT := Lib.hid hgt
        have HQ := Lib.hid hq
        have HR := Lib.hid hr
        have HB := Lib.hid hb
        have hTl := totN_lt xs
        clear hgt hq hr hb C4 C5 C6 C7 HA8 HA24 HBU HTN HI0 HR0 HB0 HZ c0 s4 s5 s6 s7 s8 s9 sa l4 l5 l6 l7 l0 X4 X5 X6 X7 hx0 v1 HOK0 Hf0
        by_cases hlt : len < totN_9 xs
        · have hF := F2.out hv'.out hlt
          have hR := HFB.out (by omega)
          have hN := HNB.out (by omega)
          rw [hF] at hN
          have Q := Lib.hid (And.intro hR hN)
          have hlt' : (len : Int) < ((totN_9 xs : Nat) : Int) := by omega
          clear hF hR hN hlt
          go_wp2_with (first
            | ((with_reducible show wpList _ _ _ _ _ _); refine wpList_buildTo rfl 65 _ rfl (some 45) rfl (frL_9 Fr_9.zero).toArray (by kernel_rfl) ?_)
            | ((with_reducible show wpList _ _ _ _ _ _); refine wpList_storeR_9 rfl 65 (.tmp 2) (.tmp 45) rfl w.heap.size (by rfl) (frL_9 Fr_9.zero) (by rfl) _ HR.out rfl (sizeFrL_9 HZO.out) (frL_one_9 _) ?_))
          refine bodyPost_ret (v := .tuple #[frC_9 Fr_9.zero, .int .i64 2]) (results_fr_9 rfl _ _ w.heap.size (by rfl) _ HZO.out (HR.out.setRow_ _) _ (by rfl)) rfl ?_
          exact ⟨by rw [Q.out.1, Q.out.2]; rfl, below_setRow HB.out (Nat.le_refl _) _⟩
        · have hF0 := F3.out hv'.out (by omega)
          have hlt' : ¬ (len : Int) < ((totN_9 xs : Nat) : Int) := by omega
          have HF0 := Lib.hid hF0
          have HTX := Lib.hid (show totN_9 xs ≤ len by omega)
          have HT40 := Lib.hid (show 40 ≤ totN_9 xs by unfold totN_9; omega)
          have HTL := Lib.hid hTl
          clear hF0 hlt F1 F2 F3 HNB HFB hv' hTl
          go_wp2_with fail
          clear c1 hlt'
          go_loopg [5] 9 (fun gh v5 wr => ∃ k : Wk, k.exts + gh = 9 ∧ walkOf xs (totN_9 xs) k = walkOf xs (totN_9 xs) (wk0 xs) ∧ k.Fit (totN_9 xs) ∧ Blk_9 wr 65 w.heap.size (frL_9 Fr_9.zero) ∧ Blk_9 wr 65 G (frL_9 (hdAt xs k)) ∧ Below w.heap.size w wr)
          case atStart => exact ⟨wk0 xs, rfl, rfl, wk0_fit HT40.out, HR.out, HQ.out, HB.out⟩
          case round =>
            clear HR HQ HB
            obtain ⟨k, hgh, hwk, hfit, bR, bH, hB⟩ := hrel
            have c0 := bH.cell (i := 0) (v := .int .i64 (k.head : Nat)) rfl
            have c1 := bH.cell (i := 1) (v := .int .i64 (totN_9 xs : Nat)) rfl
            have c3 := bH.cell (i := 3) (v := .bool k.frag) rfl
            have c4 := bH.cell (i := 4) (v := .int .i64 (k.exts : Nat)) rfl
            have c5 := bH.cell (i := 5) (v := .int .i64 (k.proto : Nat)) rfl
            have HX := Lib.hid (fun W => rext_any (k.proto : Int) W)
            rw [extI_nat] at HX
            have HO := Lib.hid (HOK.out k)
            have HI4 := Lib.hid (HIW.out.below hB)
            have HBR := Lib.hid bR
            have HBH := Lib.hid bH
            have HBB := Lib.hid hB
            have HFIT := Lib.hid hfit
            have HWK := Lib.hid hwk
            have HGH := Lib.hid hgh
            clear bR bH hB hfit hwk hgh
            by_cases hg : goB k = true
            · have hx : extB k.proto = true := by unfold goB at hg; exact (Bool.and_eq_true _ _ ▸ hg).1
              have hfr : k.frag = false := by unfold goB at hg; have := (Bool.and_eq_true _ _ ▸ hg).2; simpa using this
              rw [hfr] at c3
              rw [hx] at HX
              have HGO := Lib.hid hg
              have HFR := Lib.hid hfr
              have hh0 := HFIT.out.h0
              have hh1 := HFIT.out.h1
              have hTl := HTL.out
              have hTx := HTX.out
              have he := HFIT.out.e
              have hnt := HFIT.out.p
              clear hg hfr
              by_cases e8 : k.exts = 8
              · have q8 : ((k.exts : Int) == 8) = true := by simp; omega
                have Q := Lib.hid (rd_stop HF0.out HWK.out HGO.out he (by rw [step_four e8]; decide))
                rw [step_four e8] at Q
                clear e8
                go_wp2_with fail
                refine (HX.out _).mono ?_
                rintro e w5 ⟨rfl, rfl⟩
                go_wp2_with (first
                  | ((with_reducible show wpList _ _ _ _ _ _); refine wpList_buildTo rfl 65 _ rfl (some 57) rfl (frL_9 Fr_9.zero).toArray (by kernel_rfl) ?_)
                  | ((with_reducible show wpList _ _ _ _ _ _); refine wpList_storeR_9 rfl 65 (.tmp 2) (.tmp 57) rfl w.heap.size (by rfl) (frL_9 Fr_9.zero) (by rfl) _ HBR.out rfl (sizeFrL_9 HZO.out) (frL_one_9 _) ?_))
                refine bodyPost_ret (v := .tuple #[frC_9 Fr_9.zero, .int .i64 4]) (results_fr_9 rfl _ _ w.heap.size (by rfl) _ HZO.out (HBR.out.setRow_ _) _ (by rfl)) rfl ?_
                exact ⟨by rw [Q.out.1, Q.out.2]; rfl, below_setRow HBB.out (Nat.le_refl _) _⟩
              have E8 := Lib.hid e8
              have q8 : ((k.exts : Int) == 8) = false := by simp; omega
              clear e8
              have hsub : IntKind.i64.wrap (((totN_9 xs : Nat) : Int) - (k.head : Int)) = ((totN_9 xs - k.head : Nat) : Int) := by rw [IntKind.wrap_i64]; omega
              by_cases l8 : totN_9 xs - k.head < 8
              · have l8' : ((totN_9 xs - k.head : Nat) : Int) < 8 := by omega
                have Q := Lib.hid (rd_stop HF0.out HWK.out HGO.out he (by rw [step_few E8.out l8]; decide))
                rw [step_few E8.out l8] at Q
                clear l8
                go_wp2_with fail
                refine (HX.out _).mono ?_
                rintro e w5 ⟨rfl, rfl⟩
                go_wp2_with (first
                  | ((with_reducible show wpList _ _ _ _ _ _); refine wpList_buildTo rfl 65 _ rfl (some 64) rfl (frL_9 Fr_9.zero).toArray (by kernel_rfl) ?_)
                  | ((with_reducible show wpList _ _ _ _ _ _); refine wpList_storeR_9 rfl 65 (.tmp 2) (.tmp 64) rfl w.heap.size (by rfl) (frL_9 Fr_9.zero) (by rfl) _ HBR.out rfl (sizeFrL_9 HZO.out) (frL_one_9 _) ?_))
                refine bodyPost_ret (v := .tuple #[frC_9 Fr_9.zero, .int .i64 2]) (results_fr_9 rfl _ _ w.heap.size (by rfl) _ HZO.out (HBR.out.setRow_ _) _ (by rfl)) rfl ?_
                exact ⟨by rw [Q.out.1, Q.out.2]; rfl, below_setRow HBB.out (Nat.le_refl _) _⟩
              have l8' : ¬ ((totN_9 xs - k.head : Nat) : Int) < 8 := by omega
              have HS := Lib.hid (fun W (hW : Rd W w.heap.size (some ⟨b, off, none⟩) len xs) => rsize_any (cap := cap) (p := k.proto) (at_ := k.head) hx (k.proto : Int) (k.head : Int) rfl rfl (by omega) (by omega) hW)
              have hm := batN_lt xs (k.head + 1)
              have hszl := szN_le k.proto _ hm
              have SL := Lib.hid (fun h => step_less (xs := xs) (T := totN_9 xs) (k := k) E8.out h)
              have SO := Lib.hid (fun h => step_ok (xs := xs) (T := totN_9 xs) (k := k) E8.out h)
              have HSK := Lib.hid (show (stepK xs k).head = k.head + szN k.proto (batN xs (k.head + 1)) from rfl)
              clear hm
              generalize szN k.proto (batN xs (k.head + 1)) = sz at *
              by_cases hl : totN_9 xs - k.head < sz
              · have hl' : ((totN_9 xs - k.head : Nat) : Int) < (sz : Int) := by omega
                have Q := Lib.hid (rd_stop HF0.out HWK.out HGO.out he (by rw [SL.out hl]; decide))
                rw [SL.out hl] at Q
                clear hl l8
                go_wp2_with fail
                refine (HX.out _).mono ?_
                rintro e w5 ⟨rfl, rfl⟩
                go_wp2_with fail
                refine (HS.out _ HI4.out).mono ?_
                rintro e w5 ⟨rfl, rfl⟩
                go_wp2_with (first
                  | ((with_reducible show wpList _ _ _ _ _ _); refine wpList_buildTo rfl 65 _ rfl (some 78) rfl (frL_9 Fr_9.zero).toArray (by kernel_rfl) ?_)
                  | ((with_reducible show wpList _ _ _ _ _ _); refine wpList_storeR_9 rfl 65 (.tmp 2) (.tmp 78) rfl w.heap.size (by rfl) (frL_9 Fr_9.zero) (by rfl) _ HBR.out rfl (sizeFrL_9 HZO.out) (frL_one_9 _) ?_))
                refine bodyPost_ret (v := .tuple #[frC_9 Fr_9.zero, .int .i64 2]) (results_fr_9 rfl _ _ w.heap.size (by rfl) _ HZO.out (HBR.out.setRow_ _) _ (by rfl)) rfl ?_
                exact ⟨by rw [Q.out.1, Q.out.2]; rfl, below_setRow HBB.out (Nat.le_refl _) _⟩
              have hl' : ¬ ((totN_9 xs - k.head : Nat) : Int) < (sz : Int) := by omega
              have hs0 := SO.out (by omega)
              have HNX := Lib.hid ((walk_step HGO.out he hs0).symm.trans HWK.out)
              have HFX := Lib.hid (stepK_fit HFIT.out hs0)
              have HE7 := Lib.hid (step_fits hs0 he)
              have HKE := Lib.hid (show hdAt xs (stepK xs k) = ⟨((stepK xs k).head : Nat), (hdAt xs k).total, (hdAt xs k).hop, fragB k.proto (wat xs (k.head + 2)), ((k.exts + 1 : Nat) : Int), (batN xs k.head : Nat), (hdAt xs k).s, (hdAt xs k).d⟩ from rfl)
              have HKF := Lib.hid (show (hdAt xs k).frag = false from HFR.out)
              rw [HSK.out] at HKE
              have HC0 := Lib.hid (fun W (hW : Below w.heap.size wr W) => (HI4.out.below hW).cellD (k := k.head) (by omega))
              have d2 := HI4.out.cellD (k := k.head + 2) (by omega)
              have d3 := HI4.out.cellD (k := k.head + 3) (by omega)
              have ha2 : IntKind.i64.wrap ((k.head : Int) + 2) = ((k.head + 2 : Nat) : Int) := by rw [IntKind.wrap_i64]; omega
              have ha3 : IntKind.i64.wrap ((k.head : Int) + 3) = ((k.head + 3 : Nat) : Int) := by rw [IntKind.wrap_i64]; omega
              have ll0 : ((k.head : Nat) : Int) < (len : Int) := by omega
              have ll2 : ((k.head + 2 : Nat) : Int) < (len : Int) := by omega
              have ll3 : ((k.head + 3 : Nat) : Int) < (len : Int) := by omega
              have hw0 : IntKind.i64.wrap ((k.head : Int) + (sz : Int)) = ((k.head + sz : Nat) : Int) := by rw [IntKind.wrap_i64]; omega
              have hw1 : IntKind.i64.wrap ((k.exts : Int) + 1) = ((k.exts + 1 : Nat) : Int) := by rw [IntKind.wrap_i64]; omega
              have hb0l := batN_lt xs k.head
              have hb2l := batN_lt xs (k.head + 2)
              have hb3l := batN_lt xs (k.head + 3)
              have hwat : wat xs (k.head + 2) = 256 * batN xs (k.head + 2) + batN xs (k.head + 3) := rfl
              have HON := Lib.hid (HOK.out (stepK xs k))
              have hfbn : k.proto ≠ 44 → fragB k.proto (wat xs (k.head + 2)) = false := fun h => by simp [fragB, h]
              have hfby : k.proto = 44 → fragB k.proto (wat xs (k.head + 2)) = (wat xs (k.head + 2) / 8 != 0 || wat xs (k.head + 2) % 2 != 0) := fun h => by simp [fragB, h]
              generalize fragB k.proto (wat xs (k.head + 2)) = fb at *
              rw [hwat] at hfby
              clear hwat
              obtain ⟨h, hh⟩ : ∃ h, hdAt xs k = h := ⟨_, rfl⟩
              rw [hh] at HKE HKF HBH HO
              have D0 := Lib.hid (show h.head = ((k.head : Nat) : Int) by rw [← hh]; rfl)
              have D4 := Lib.hid (show h.exts = ((k.exts : Nat) : Int) by rw [← hh]; rfl)
              clear hh
              generalize batN xs k.head = y0 at *
              generalize batN xs (k.head + 2) = y2 at *
              generalize batN xs (k.head + 3) = y3 at *
              have u0 : IntKind.i64.wrap (y0 : Int) = (y0 : Int) := by rw [IntKind.wrap_i64]; omega
              have u1 : IntKind.u8.wrap ((y3 : Int) / 8) = (y3 : Int) / 8 := by rw [IntKind.wrap_u8]; omega
              have u2 : IntKind.u8.wrap ((y3 : Int) % 2) = (y3 : Int) % 2 := by rw [IntKind.wrap_u8]; omega
              have m2 : ((y3 : Int)).tmod 2 = (y3 : Int) % 2 := Int.tmod_eq_emod_of_nonneg (by omega)
              have m8 : ((y3 : Int)).tdiv 8 = (y3 : Int) / 8 := Int.tdiv_eq_ediv_of_nonneg (by omega)
              have HD2 := Lib.hid d2
              have HD3 := Lib.hid d3
              have HFBY := Lib.hid hfby
              have HL' := Lib.hid hl'
              clear d2 d3 hfby hl hs0 l8 SL SO hszl
              by_cases p44 : k.proto = 44
              · have Q44 := Lib.hid (show ((k.proto : Int) == 44) = true by simp; omega)
                have hfb := HFBY.out p44
                clear p44 hfbn
                go_wp2_with fail
                refine (HX.out _).mono ?_
                rintro e w5 ⟨rfl, rfl⟩
                go_wp2_with fail
                refine (HS.out _ HI4.out).mono ?_
                rintro e w5 ⟨rfl, rfl⟩
                have q44 := Q44.out
                have d2 := HD2.out
                have d3 := HD3.out
                by_cases z2 : y2 = 0
                · have n2 : ((y2 : Int) != 0) = false := by simp; omega
                  by_cases z3 : y3 / 8 = 0
                  · have n3 : ((y3 : Int) / 8 != 0) = false := by simp; omega
                    by_cases z4 : y3 % 2 = 1
                    · have n4 : ((y3 : Int) % 2 == 1) = true := by simp; omega
                      have hft : fb = true := by rw [hfb]; simp; omega
                      clear hfb z2 z3 z4
                      subst hft
                      go_wp2_with (first
                        | ((with_reducible show wpList _ _ _ _ _ _); refine wpList_storeB rfl (.tmp 111) (.const (.bool true)) rfl G 3 (by rfl) true (by rfl) 65 _ HBH.out h.frag rfl ?_; intro w6 hq6 hf6 hb6; have V1 : Hid (Blk_9 w6 65 G (frL_9 ⟨h.head, h.total, h.hop, true, h.exts, h.proto, h.s, h.d⟩)) := Lib.hid hq6; have V2 : Hid (Blk_9 w6 65 w.heap.size (frL_9 Fr_9.zero)) := Lib.hid ((hf6 _ (Nat.ne_of_lt HGT.out)).trans HBR.out); have V3 := Lib.hid (hb6.mono (Nat.le_of_lt HGT.out)); clear c0 c1 c3 c4 c5 d2 d3; have c0 := V1.out.cell (i := 0) (v := .int .i64 h.head) rfl; rw [D0.out] at c0; have c0b := HC0.out w6 V3.out; clear hq6 hf6 hb6)
                        | ((with_reducible show wpList _ _ _ _ _ _); refine wpList_storeI_9 rfl (.tmp 118) (.tmp 117) rfl G 5 (by rfl) (y0 : Int) (by rfl) 65 _ V1.out h.proto rfl ?_; intro w7 hq7 hf7 hb7; have Q7 : Hid (Blk_9 w7 65 G (frL_9 ⟨h.head, h.total, h.hop, true, h.exts, (y0 : Int), h.s, h.d⟩)) := Lib.hid hq7; have R7 : Hid (Blk_9 w7 65 w.heap.size (frL_9 Fr_9.zero)) := Lib.hid ((hf7 _ (Nat.ne_of_lt HGT.out)).trans V2.out); have B7 := Lib.hid (V3.out.trans (hb7.mono (Nat.le_of_lt HGT.out))); have z0 := Q7.out.cell (i := 0) (v := .int .i64 h.head) rfl; rw [D0.out] at z0; clear hq7 hf7 hb7)
                        | ((with_reducible show wpList _ _ _ _ _ _); refine wpList_storeI_9 rfl (.tmp 123) (.tmp 122) rfl G 0 (by rfl) ((k.head + sz : Nat) : Int) (by rfl) 65 _ Q7.out h.head rfl ?_; intro w8 hq8 hf8 hb8; have Q8 : Hid (Blk_9 w8 65 G (frL_9 ⟨((k.head + sz : Nat) : Int), h.total, h.hop, true, h.exts, (y0 : Int), h.s, h.d⟩)) := Lib.hid hq8; have R8 : Hid (Blk_9 w8 65 w.heap.size (frL_9 Fr_9.zero)) := Lib.hid ((hf8 _ (Nat.ne_of_lt HGT.out)).trans R7.out); have B8 := Lib.hid (B7.out.trans (hb8.mono (Nat.le_of_lt HGT.out))); have z4 := Q8.out.cell (i := 4) (v := .int .i64 h.exts) rfl; rw [D4.out] at z4; clear hq8 hf8 hb8 z0)
                        | ((with_reducible show wpList _ _ _ _ _ _); refine wpList_storeI_9 rfl (.tmp 127) (.tmp 126) rfl G 4 (by rfl) ((k.exts + 1 : Nat) : Int) (by rfl) 65 _ Q8.out h.exts rfl ?_; intro w9 hq9 hf9 hb9; have Q9 : Hid (Blk_9 w9 65 G (frL_9 (hdAt xs (stepK xs k)))) := Lib.hid (by rw [HKE.out]; exact hq9); have R9 : Hid (Blk_9 w9 65 w.heap.size (frL_9 Fr_9.zero)) := Lib.hid ((hf9 _ (Nat.ne_of_lt HGT.out)).trans R8.out); have B9 := Lib.hid (B8.out.trans (hb9.mono (Nat.le_of_lt HGT.out))); clear hq9 hf9 hb9 z4))
                      go_roundg (gk - 1)
                      case measure => have := HGH.out; have := HE7.out; omega
                      case rel => exact ⟨stepK xs k, by have := HGH.out; have := HE7.out; show k.exts + 1 + (gk - 1) = 9; omega, HNX.out, HFX.out, R9.out, Q9.out, HBB.out.trans B9.out⟩
                    · have n4 : ((y3 : Int) % 2 == 1) = false := by simp; omega
                      have hft : fb = false := by rw [hfb]; simp; omega
                      clear hfb z2 z3 z4
                      subst hft
                      have V1 : Hid (Blk_9 wr 65 G (frL_9 ⟨h.head, h.total, h.hop, false, h.exts, h.proto, h.s, h.d⟩)) := Lib.hid (by rw [← HKF.out]; exact HBH.out)
                      have V2 := HBR
                      have V3 := Lib.hid (Below.refl w.heap.size wr)
                      have c0b := HC0.out wr V3.out
                      go_wp2_with (first
                        | ((with_reducible show wpList _ _ _ _ _ _); refine wpList_storeI_9 rfl (.tmp 118) (.tmp 117) rfl G 5 (by rfl) (y0 : Int) (by rfl) 65 _ V1.out h.proto rfl ?_; intro w7 hq7 hf7 hb7; have Q7 : Hid (Blk_9 w7 65 G (frL_9 ⟨h.head, h.total, h.hop, false, h.exts, (y0 : Int), h.s, h.d⟩)) := Lib.hid hq7; have R7 : Hid (Blk_9 w7 65 w.heap.size (frL_9 Fr_9.zero)) := Lib.hid ((hf7 _ (Nat.ne_of_lt HGT.out)).trans V2.out); have B7 := Lib.hid (V3.out.trans (hb7.mono (Nat.le_of_lt HGT.out))); have z0 := Q7.out.cell (i := 0) (v := .int .i64 h.head) rfl; rw [D0.out] at z0; clear hq7 hf7 hb7)
                        | ((with_reducible show wpList _ _ _ _ _ _); refine wpList_storeI_9 rfl (.tmp 123) (.tmp 122) rfl G 0 (by rfl) ((k.head + sz : Nat) : Int) (by rfl) 65 _ Q7.out h.head rfl ?_; intro w8 hq8 hf8 hb8; have Q8 : Hid (Blk_9 w8 65 G (frL_9 ⟨((k.head + sz : Nat) : Int), h.total, h.hop, false, h.exts, (y0 : Int), h.s, h.d⟩)) := Lib.hid hq8; have R8 : Hid (Blk_9 w8 65 w.heap.size (frL_9 Fr_9.zero)) := Lib.hid ((hf8 _ (Nat.ne_of_lt HGT.out)).trans R7.out); have B8 := Lib.hid (B7.out.trans (hb8.mono (Nat.le_of_lt HGT.out))); have z4 := Q8.out.cell (i := 4) (v := .int .i64 h.exts) rfl; rw [D4.out] at z4; clear hq8 hf8 hb8 z0)
                        | ((with_reducible show wpList _ _ _ _ _ _); refine wpList_storeI_9 rfl (.tmp 127) (.tmp 126) rfl G 4 (by rfl) ((k.exts + 1 : Nat) : Int) (by rfl) 65 _ Q8.out h.exts rfl ?_; intro w9 hq9 hf9 hb9; have Q9 : Hid (Blk_9 w9 65 G (frL_9 (hdAt xs (stepK xs k)))) := Lib.hid (by rw [HKE.out]; exact hq9); have R9 : Hid (Blk_9 w9 65 w.heap.size (frL_9 Fr_9.zero)) := Lib.hid ((hf9 _ (Nat.ne_of_lt HGT.out)).trans R8.out); have B9 := Lib.hid (B8.out.trans (hb9.mono (Nat.le_of_lt HGT.out))); clear hq9 hf9 hb9 z4))
                      go_roundg (gk - 1)
                      case measure => have := HGH.out; have := HE7.out; omega
                      case rel => exact ⟨stepK xs k, by have := HGH.out; have := HE7.out; show k.exts + 1 + (gk - 1) = 9; omega, HNX.out, HFX.out, R9.out, Q9.out, HBB.out.trans B9.out⟩
                  · have n3 : ((y3 : Int) / 8 != 0) = true := by simp; omega
                    have hft : fb = true := by rw [hfb]; simp; omega
                    clear hfb z2 z3
                    subst hft
                    go_wp2_with (first
                      | ((with_reducible show wpList _ _ _ _ _ _); refine wpList_storeB rfl (.tmp 111) (.const (.bool true)) rfl G 3 (by rfl) true (by rfl) 65 _ HBH.out h.frag rfl ?_; intro w6 hq6 hf6 hb6; have V1 : Hid (Blk_9 w6 65 G (frL_9 ⟨h.head, h.total, h.hop, true, h.exts, h.proto, h.s, h.d⟩)) := Lib.hid hq6; have V2 : Hid (Blk_9 w6 65 w.heap.size (frL_9 Fr_9.zero)) := Lib.hid ((hf6 _ (Nat.ne_of_lt HGT.out)).trans HBR.out); have V3 := Lib.hid (hb6.mono (Nat.le_of_lt HGT.out)); clear c0 c1 c3 c4 c5 d2 d3; have c0 := V1.out.cell (i := 0) (v := .int .i64 h.head) rfl; rw [D0.out] at c0; have c0b := HC0.out w6 V3.out; clear hq6 hf6 hb6)
                      | ((with_reducible show wpList _ _ _ _ _ _); refine wpList_storeI_9 rfl (.tmp 118) (.tmp 117) rfl G 5 (by rfl) (y0 : Int) (by rfl) 65 _ V1.out h.proto rfl ?_; intro w7 hq7 hf7 hb7; have Q7 : Hid (Blk_9 w7 65 G (frL_9 ⟨h.head, h.total, h.hop, true, h.exts, (y0 : Int), h.s, h.d⟩)) := Lib.hid hq7; have R7 : Hid (Blk_9 w7 65 w.heap.size (frL_9 Fr_9.zero)) := Lib.hid ((hf7 _ (Nat.ne_of_lt HGT.out)).trans V2.out); have B7 := Lib.hid (V3.out.trans (hb7.mono (Nat.le_of_lt HGT.out))); have z0 := Q7.out.cell (i := 0) (v := .int .i64 h.head) rfl; rw [D0.out] at z0; clear hq7 hf7 hb7)
                      | ((with_reducible show wpList _ _ _ _ _ _); refine wpList_storeI_9 rfl (.tmp 123) (.tmp 122) rfl G 0 (by rfl) ((k.head + sz : Nat) : Int) (by rfl) 65 _ Q7.out h.head rfl ?_; intro w8 hq8 hf8 hb8; have Q8 : Hid (Blk_9 w8 65 G (frL_9 ⟨((k.head + sz : Nat) : Int), h.total, h.hop, true, h.exts, (y0 : Int), h.s, h.d⟩)) := Lib.hid hq8; have R8 : Hid (Blk_9 w8 65 w.heap.size (frL_9 Fr_9.zero)) := Lib.hid ((hf8 _ (Nat.ne_of_lt HGT.out)).trans R7.out); have B8 := Lib.hid (B7.out.trans (hb8.mono (Nat.le_of_lt HGT.out))); have z4 := Q8.out.cell (i := 4) (v := .int .i64 h.exts) rfl; rw [D4.out] at z4; clear hq8 hf8 hb8 z0)
                      | ((with_reducible show wpList _ _ _ _ _ _); refine wpList_storeI_9 rfl (.tmp 127) (.tmp 126) rfl G 4 (by rfl) ((k.exts + 1 : Nat) : Int) (by rfl) 65 _ Q8.out h.exts rfl ?_; intro w9 hq9 hf9 hb9; have Q9 : Hid (Blk_9 w9 65 G (frL_9 (hdAt xs (stepK xs k)))) := Lib.hid (by rw [HKE.out]; exact hq9); have R9 : Hid (Blk_9 w9 65 w.heap.size (frL_9 Fr_9.zero)) := Lib.hid ((hf9 _ (Nat.ne_of_lt HGT.out)).trans R8.out); have B9 := Lib.hid (B8.out.trans (hb9.mono (Nat.le_of_lt HGT.out))); clear hq9 hf9 hb9 z4))
                    go_roundg (gk - 1)
                    case measure => have := HGH.out; have := HE7.out; omega
                    case rel => exact ⟨stepK xs k, by have := HGH.out; have := HE7.out; show k.exts + 1 + (gk - 1) = 9; omega, HNX.out, HFX.out, R9.out, Q9.out, HBB.out.trans B9.out⟩
                · have n2 : ((y2 : Int) != 0) = true := by simp; omega
                  have hft : fb = true := by rw [hfb]; simp; omega
                  clear hfb z2
                  subst hft
                  go_wp2_with (first
                    | ((with_reducible show wpList _ _ _ _ _ _); refine wpList_storeB rfl (.tmp 111) (.const (.bool true)) rfl G 3 (by rfl) true (by rfl) 65 _ HBH.out h.frag rfl ?_; intro w6 hq6 hf6 hb6; have V1 : Hid (Blk_9 w6 65 G (frL_9 ⟨h.head, h.total, h.hop, true, h.exts, h.proto, h.s, h.d⟩)) := Lib.hid hq6; have V2 : Hid (Blk_9 w6 65 w.heap.size (frL_9 Fr_9.zero)) := Lib.hid ((hf6 _ (Nat.ne_of_lt HGT.out)).trans HBR.out); have V3 := Lib.hid (hb6.mono (Nat.le_of_lt HGT.out)); clear c0 c1 c3 c4 c5 d2 d3; have c0 := V1.out.cell (i := 0) (v := .int .i64 h.head) rfl; rw [D0.out] at c0; have c0b := HC0.out w6 V3.out; clear hq6 hf6 hb6)
                    | ((with_reducible show wpList _ _ _ _ _ _); refine wpList_storeI_9 rfl (.tmp 118) (.tmp 117) rfl G 5 (by rfl) (y0 : Int) (by rfl) 65 _ V1.out h.proto rfl ?_; intro w7 hq7 hf7 hb7; have Q7 : Hid (Blk_9 w7 65 G (frL_9 ⟨h.head, h.total, h.hop, true, h.exts, (y0 : Int), h.s, h.d⟩)) := Lib.hid hq7; have R7 : Hid (Blk_9 w7 65 w.heap.size (frL_9 Fr_9.zero)) := Lib.hid ((hf7 _ (Nat.ne_of_lt HGT.out)).trans V2.out); have B7 := Lib.hid (V3.out.trans (hb7.mono (Nat.le_of_lt HGT.out))); have z0 := Q7.out.cell (i := 0) (v := .int .i64 h.head) rfl; rw [D0.out] at z0; clear hq7 hf7 hb7)
                    | ((with_reducible show wpList _ _ _ _ _ _); refine wpList_storeI_9 rfl (.tmp 123) (.tmp 122) rfl G 0 (by rfl) ((k.head + sz : Nat) : Int) (by rfl) 65 _ Q7.out h.head rfl ?_; intro w8 hq8 hf8 hb8; have Q8 : Hid (Blk_9 w8 65 G (frL_9 ⟨((k.head + sz : Nat) : Int), h.total, h.hop, true, h.exts, (y0 : Int), h.s, h.d⟩)) := Lib.hid hq8; have R8 : Hid (Blk_9 w8 65 w.heap.size (frL_9 Fr_9.zero)) := Lib.hid ((hf8 _ (Nat.ne_of_lt HGT.out)).trans R7.out); have B8 := Lib.hid (B7.out.trans (hb8.mono (Nat.le_of_lt HGT.out))); have z4 := Q8.out.cell (i := 4) (v := .int .i64 h.exts) rfl; rw [D4.out] at z4; clear hq8 hf8 hb8 z0)
                    | ((with_reducible show wpList _ _ _ _ _ _); refine wpList_storeI_9 rfl (.tmp 127) (.tmp 126) rfl G 4 (by rfl) ((k.exts + 1 : Nat) : Int) (by rfl) 65 _ Q8.out h.exts rfl ?_; intro w9 hq9 hf9 hb9; have Q9 : Hid (Blk_9 w9 65 G (frL_9 (hdAt xs (stepK xs k)))) := Lib.hid (by rw [HKE.out]; exact hq9); have R9 : Hid (Blk_9 w9 65 w.heap.size (frL_9 Fr_9.zero)) := Lib.hid ((hf9 _ (Nat.ne_of_lt HGT.out)).trans R8.out); have B9 := Lib.hid (B8.out.trans (hb9.mono (Nat.le_of_lt HGT.out))); clear hq9 hf9 hb9 z4))
                  go_roundg (gk - 1)
                  case measure => have := HGH.out; have := HE7.out; omega
                  case rel => exact ⟨stepK xs k, by have := HGH.out; have := HE7.out; show k.exts + 1 + (gk - 1) = 9; omega, HNX.out, HFX.out, R9.out, Q9.out, HBB.out.trans B9.out⟩
              · have q44 : ((k.proto : Int) == 44) = false := by simp; omega
                have hfb := hfbn p44
                subst hfb
                clear p44 hfbn
                go_wp2_with fail
                refine (HX.out _).mono ?_
                rintro e w5 ⟨rfl, rfl⟩
                go_wp2_with fail
                refine (HS.out _ HI4.out).mono ?_
                rintro e w5 ⟨rfl, rfl⟩
                have V1 : Hid (Blk_9 wr 65 G (frL_9 ⟨h.head, h.total, h.hop, false, h.exts, h.proto, h.s, h.d⟩)) := Lib.hid (by rw [← HKF.out]; exact HBH.out)
                have V2 := HBR
                have V3 := Lib.hid (Below.refl w.heap.size wr)
                have c0b := HC0.out wr V3.out
                go_wp2_with (first
                  | ((with_reducible show wpList _ _ _ _ _ _); refine wpList_storeI_9 rfl (.tmp 118) (.tmp 117) rfl G 5 (by rfl) (y0 : Int) (by rfl) 65 _ V1.out h.proto rfl ?_; intro w7 hq7 hf7 hb7; have Q7 : Hid (Blk_9 w7 65 G (frL_9 ⟨h.head, h.total, h.hop, false, h.exts, (y0 : Int), h.s, h.d⟩)) := Lib.hid hq7; have R7 : Hid (Blk_9 w7 65 w.heap.size (frL_9 Fr_9.zero)) := Lib.hid ((hf7 _ (Nat.ne_of_lt HGT.out)).trans V2.out); have B7 := Lib.hid (V3.out.trans (hb7.mono (Nat.le_of_lt HGT.out))); have z0 := Q7.out.cell (i := 0) (v := .int .i64 h.head) rfl; rw [D0.out] at z0; clear hq7 hf7 hb7)
                  | ((with_reducible show wpList _ _ _ _ _ _); refine wpList_storeI_9 rfl (.tmp 123) (.tmp 122) rfl G 0 (by rfl) ((k.head + sz : Nat) : Int) (by rfl) 65 _ Q7.out h.head rfl ?_; intro w8 hq8 hf8 hb8; have Q8 : Hid (Blk_9 w8 65 G (frL_9 ⟨((k.head + sz : Nat) : Int), h.total, h.hop, false, h.exts, (y0 : Int), h.s, h.d⟩)) := Lib.hid hq8; have R8 : Hid (Blk_9 w8 65 w.heap.size (frL_9 Fr_9.zero)) := Lib.hid ((hf8 _ (Nat.ne_of_lt HGT.out)).trans R7.out); have B8 := Lib.hid (B7.out.trans (hb8.mono (Nat.le_of_lt HGT.out))); have z4 := Q8.out.cell (i := 4) (v := .int .i64 h.exts) rfl; rw [D4.out] at z4; clear hq8 hf8 hb8 z0)
                  | ((with_reducible show wpList _ _ _ _ _ _); refine wpList_storeI_9 rfl (.tmp 127) (.tmp 126) rfl G 4 (by rfl) ((k.exts + 1 : Nat) : Int) (by rfl) 65 _ Q8.out h.exts rfl ?_; intro w9 hq9 hf9 hb9; have Q9 : Hid (Blk_9 w9 65 G (frL_9 (hdAt xs (stepK xs k)))) := Lib.hid (by rw [HKE.out]; exact hq9); have R9 : Hid (Blk_9 w9 65 w.heap.size (frL_9 Fr_9.zero)) := Lib.hid ((hf9 _ (Nat.ne_of_lt HGT.out)).trans R8.out); have B9 := Lib.hid (B8.out.trans (hb9.mono (Nat.le_of_lt HGT.out))); clear hq9 hf9 hb9 z4))
                go_roundg (gk - 1)
                case measure => have := HGH.out; have := HE7.out; omega
                case rel => exact ⟨stepK xs k, by have := HGH.out; have := HE7.out; show k.exts + 1 + (gk - 1) = 9; omega, HNX.out, HFX.out, R9.out, Q9.out, HBB.out.trans B9.out⟩
            · have Q := Lib.hid (rd_end HF0.out HWK.out (Bool.eq_false_iff.2 hg))
              cases hx : extB k.proto with
              | false =>
                rw [hx] at HX
                clear hx hg HWK HFIT
                obtain ⟨h, hh⟩ : ∃ h, hdAt xs k = h := ⟨_, rfl⟩
                rw [hh] at HO HBH Q
                clear hh
                go_wp2_with fail
                refine (HX.out _).mono ?_
                rintro e w5 ⟨rfl, rfl⟩
                go_wp2_with (first
                  | ((with_reducible show wpList _ _ _ _ _ _); refine wpList_loadF_9 rfl (.tmp 4) rfl G (by rfl) h HO.out HBH.out ?_)
                  | ((with_reducible show wpList _ _ _ _ _ _); refine wpList_storeR_9 rfl 65 (.tmp 2) (.tmp 128) rfl w.heap.size (by rfl) (frL_9 h) (by rfl) _ HBR.out (by rw [frL_len_9 HO.out]; rfl) (sizeFrL_9 HO.out) (frL_one_9 _) ?_))
                refine bodyPost_ret (v := .tuple #[frC_9 h, .int .i64 0]) (results_fr_9 rfl _ _ w.heap.size (by rfl) _ HO.out (HBR.out.setRow_ _) _ (by rfl)) rfl ?_
                exact ⟨by rw [Q.out.1, Q.out.2]; rfl, below_setRow HBB.out (Nat.le_refl _) _⟩
              | true =>
                have hfr : k.frag = true := by
                  unfold goB at hg
                  rw [hx] at hg
                  simpa using hg
                rw [hfr] at c3
                rw [hx] at HX
                clear hx hg hfr HWK HFIT
                obtain ⟨h, hh⟩ : ∃ h, hdAt xs k = h := ⟨_, rfl⟩
                rw [hh] at HO HBH Q
                clear hh
                go_wp2_with fail
                refine (HX.out _).mono ?_
                rintro e w5 ⟨rfl, rfl⟩
                go_wp2_with (first
                  | ((with_reducible show wpList _ _ _ _ _ _); refine wpList_loadF_9 rfl (.tmp 4) rfl G (by rfl) h HO.out HBH.out ?_)
                  | ((with_reducible show wpList _ _ _ _ _ _); refine wpList_storeR_9 rfl 65 (.tmp 2) (.tmp 128) rfl w.heap.size (by rfl) (frL_9 h) (by rfl) _ HBR.out (by rw [frL_len_9 HO.out]; rfl) (sizeFrL_9 HO.out) (frL_one_9 _) ?_))
                refine bodyPost_ret (v := .tuple #[frC_9 h, .int .i64 0]) (results_fr_9 rfl _ _ w.heap.size (by rfl) _ HO.out (HBR.out.setRow_ _) _ (by rfl)) rfl ?_
                exact ⟨by rw [Q.out.1, Q.out.2]; rfl, below_setRow HBB.out (Nat.le_refl _) _⟩
    · have v1 : ((x0 : Int) / 16 != 6) = true := by simp; omega
      have hF := F1.out hv
      rw [HFB.out (by omega), HNB.out (by omega), hF]
      clear hF hv
      go_enter Try.func33, Try.ntmps33
      go_wp2_with (first
        | ((with_reducible show wpList _ _ _ _ _ _); refine wpList_buildTo rfl 65 _ rfl (some 15) rfl (frL_9 Fr_9.zero).toArray (by kernel_rfl) ?_)
        | ((with_reducible show wpList _ _ _ _ _ _); rw [HZ.out]; refine wpList_storeR_9 rfl 65 (.tmp 2) (.tmp 15) rfl w.heap.size (by rfl) (frL_9 Fr_9.zero) (by rfl) _ HR0.out rfl (sizeFrL_9 HZO.out) (frL_one_9 _) ?_))
      refine bodyPost_ret (v := .tuple #[frC_9 Fr_9.zero, .int .i64 3]) (results_fr_9 rfl _ _ w.heap.size (by rfl) _ HZO.out (HR0.out.setRow_ _) _ (by rfl)) rfl ?_
      exact ⟨rfl, below_setRow HB0.out (Nat.le_refl _) _⟩
  · have h40' : (len : Int) < 40 := by omega
    have hF : faultN_9 xs = 2 := fault_short_9 (by rw [HL.out]; omega)
    rw [rdF_bad (by omega), rdN_bad (by omega), hF]
    clear hF
    go_enter Try.func33, Try.ntmps33
    go_wp2_with (first
      | ((with_reducible show wpList _ _ _ _ _ _); refine wpList_buildTo rfl 65 _ rfl (some 9) rfl (frL_9 Fr_9.zero).toArray (by kernel_rfl) ?_)
      | ((with_reducible show wpList _ _ _ _ _ _); rw [HZ.out]; refine wpList_storeR_9 rfl 65 (.tmp 2) (.tmp 9) rfl w.heap.size (by rfl) (frL_9 Fr_9.zero) (by rfl) _ HR0.out rfl (sizeFrL_9 HZO.out) (frL_one_9 _) ?_))
    refine bodyPost_ret (v := .tuple #[frC_9 Fr_9.zero, .int .i64 2]) (results_fr_9 rfl _ _ w.heap.size (by rfl) _ HZO.out (HR0.out.setRow_ _) _ (by rfl)) rfl ?_
    exact ⟨rfl, below_setRow HB0.out (Nat.le_refl _) _⟩
end
section
open Go.RowKit Go.Lib
set_option maxRecDepth 100000 in
set_option maxHeartbeats 2000000 in
theorem maybe_0_9 {h0 h1 h2 : Int} {h3 : Bool} {h4 h5 : Int} {A B : Ad} (hok : Fr_9.Ok ⟨h0, h1, h2, h3, h4, h5, A, B⟩) (e0 : h0 ≠ 40) (w : World) :
    Calls Try.prog 56 #[frC_9 ⟨h0, h1, h2, h3, h4, h5, A, B⟩] w fun e w' => e = .returned (.bool false) ∧ Below w.heap.size w w' := by
  have hb1 := Blk_9.new w 65 (frL_9 ⟨h0, h1, h2, h3, h4, h5, A, B⟩)
  have hB1 := (Below.refl w.heap.size w).alloc (Nat.le_refl _) (.cells (frL_9 ⟨h0, h1, h2, h3, h4, h5, A, B⟩).toArray 65)
  have k0 := hb1.cell (i := 0) (v := .int .i64 h0) rfl
  have k1 := hb1.cell (i := 1) (v := .int .i64 h1) rfl
  have k2 := hb1.cell (i := 2) (v := .int .i64 h2) rfl
  have k3 := hb1.cell (i := 3) (v := .bool h3) rfl
  have k4 := hb1.cell (i := 4) (v := .int .i64 h4) rfl
  have k5 := hb1.cell (i := 5) (v := .int .i64 h5) rfl
  have k6 := hb1.cell (i := 6) (v := .bool A.six) rfl
  have k7 := hb1.dst hok 0 (.bool B.six) rfl
  rw [Nat.add_zero] at k7
  unfold frC_9
  generalize frL_9 ⟨h0, h1, h2, h3, h4, h5, A, B⟩ = C at *
  have q0 : (h0 == 40) = false := beq_eq_false_iff_ne.2 e0
  clear hb1
  go_enter Try.func56, Try.ntmps56
  go_wp2_with fail
  go_ret
  exact ⟨rfl, hB1⟩
set_option maxRecDepth 100000 in
set_option maxHeartbeats 2000000 in
theorem maybe_1_9 {h0 h1 h2 : Int} {h3 : Bool} {h4 h5 : Int} {A B : Ad} (hok : Fr_9.Ok ⟨h0, h1, h2, h3, h4, h5, A, B⟩) (e0 : h0 = 40) (e1 : inB h1 40 65575 = false) (w : World) :
    Calls Try.prog 56 #[frC_9 ⟨h0, h1, h2, h3, h4, h5, A, B⟩] w fun e w' => e = .returned (.bool false) ∧ Below w.heap.size w w' := by
  have hb1 := Blk_9.new w 65 (frL_9 ⟨h0, h1, h2, h3, h4, h5, A, B⟩)
  have hB1 := (Below.refl w.heap.size w).alloc (Nat.le_refl _) (.cells (frL_9 ⟨h0, h1, h2, h3, h4, h5, A, B⟩).toArray 65)
  have k0 := hb1.cell (i := 0) (v := .int .i64 h0) rfl
  have k1 := hb1.cell (i := 1) (v := .int .i64 h1) rfl
  have k2 := hb1.cell (i := 2) (v := .int .i64 h2) rfl
  have k3 := hb1.cell (i := 3) (v := .bool h3) rfl
  have k4 := hb1.cell (i := 4) (v := .int .i64 h4) rfl
  have k5 := hb1.cell (i := 5) (v := .int .i64 h5) rfl
  have k6 := hb1.cell (i := 6) (v := .bool A.six) rfl
  have k7 := hb1.dst hok 0 (.bool B.six) rfl
  rw [Nat.add_zero] at k7
  unfold frC_9
  generalize frL_9 ⟨h0, h1, h2, h3, h4, h5, A, B⟩ = C at *
  subst e0
  have H1 := Lib.hid (fun W => e1 ▸ within_any_9 h1 40 65575 W)
  clear hb1
  go_enter Try.func56, Try.ntmps56
  go_wp2_with fail
  refine (H1.out _).mono ?_
  rintro e w2 ⟨rfl, rfl⟩
  go_wp2_with fail
  go_ret
  exact ⟨rfl, hB1⟩
set_option maxRecDepth 100000 in
set_option maxHeartbeats 2000000 in
theorem maybe_2_9 {h0 h1 h2 : Int} {h3 : Bool} {h4 h5 : Int} {A B : Ad} (hok : Fr_9.Ok ⟨h0, h1, h2, h3, h4, h5, A, B⟩) (e0 : h0 = 40) (e1 : inB h1 40 65575 = true) (e2 : h3 = true) (w : World) :
    Calls Try.prog 56 #[frC_9 ⟨h0, h1, h2, h3, h4, h5, A, B⟩] w fun e w' => e = .returned (.bool false) ∧ Below w.heap.size w w' := by
  have hb1 := Blk_9.new w 65 (frL_9 ⟨h0, h1, h2, h3, h4, h5, A, B⟩)
  have hB1 := (Below.refl w.heap.size w).alloc (Nat.le_refl _) (.cells (frL_9 ⟨h0, h1, h2, h3, h4, h5, A, B⟩).toArray 65)
  have k0 := hb1.cell (i := 0) (v := .int .i64 h0) rfl
  have k1 := hb1.cell (i := 1) (v := .int .i64 h1) rfl
  have k2 := hb1.cell (i := 2) (v := .int .i64 h2) rfl
  have k3 := hb1.cell (i := 3) (v := .bool h3) rfl
  have k4 := hb1.cell (i := 4) (v := .int .i64 h4) rfl
  have k5 := hb1.cell (i := 5) (v := .int .i64 h5) rfl
  have k6 := hb1.cell (i := 6) (v := .bool A.six) rfl
  have k7 := hb1.dst hok 0 (.bool B.six) rfl
  rw [Nat.add_zero] at k7
  unfold frC_9
  generalize frL_9 ⟨h0, h1, h2, h3, h4, h5, A, B⟩ = C at *
  subst e0
  have H1 := Lib.hid (fun W => e1 ▸ within_any_9 h1 40 65575 W)
  subst e2
  clear hb1
  go_enter Try.func56, Try.ntmps56
  go_wp2_with fail
  refine (H1.out _).mono ?_
  rintro e w2 ⟨rfl, rfl⟩
  go_wp2_with fail
  go_ret
  exact ⟨rfl, hB1⟩
set_option maxRecDepth 100000 in
set_option maxHeartbeats 2000000 in
theorem maybe_3_9 {h0 h1 h2 : Int} {h3 : Bool} {h4 h5 : Int} {A B : Ad} (hok : Fr_9.Ok ⟨h0, h1, h2, h3, h4, h5, A, B⟩) (e0 : h0 = 40) (e1 : inB h1 40 65575 = true) (e2 : h3 = false) (e3 : h4 ≠ 0) (w : World) :
    Calls Try.prog 56 #[frC_9 ⟨h0, h1, h2, h3, h4, h5, A, B⟩] w fun e w' => e = .returned (.bool false) ∧ Below w.heap.size w w' := by
  have hb1 := Blk_9.new w 65 (frL_9 ⟨h0, h1, h2, h3, h4, h5, A, B⟩)
  have hB1 := (Below.refl w.heap.size w).alloc (Nat.le_refl _) (.cells (frL_9 ⟨h0, h1, h2, h3, h4, h5, A, B⟩).toArray 65)
  have k0 := hb1.cell (i := 0) (v := .int .i64 h0) rfl
  have k1 := hb1.cell (i := 1) (v := .int .i64 h1) rfl
  have k2 := hb1.cell (i := 2) (v := .int .i64 h2) rfl
  have k3 := hb1.cell (i := 3) (v := .bool h3) rfl
  have k4 := hb1.cell (i := 4) (v := .int .i64 h4) rfl
  have k5 := hb1.cell (i := 5) (v := .int .i64 h5) rfl
  have k6 := hb1.cell (i := 6) (v := .bool A.six) rfl
  have k7 := hb1.dst hok 0 (.bool B.six) rfl
  rw [Nat.add_zero] at k7
  unfold frC_9
  generalize frL_9 ⟨h0, h1, h2, h3, h4, h5, A, B⟩ = C at *
  subst e0
  have H1 := Lib.hid (fun W => e1 ▸ within_any_9 h1 40 65575 W)
  subst e2
  have q4 : (h4 == 0) = false := beq_eq_false_iff_ne.2 e3
  clear hb1
  go_enter Try.func56, Try.ntmps56
  go_wp2_with fail
  refine (H1.out _).mono ?_
  rintro e w2 ⟨rfl, rfl⟩
  go_wp2_with fail
  go_ret
  exact ⟨rfl, hB1⟩
set_option maxRecDepth 100000 in
set_option maxHeartbeats 2000000 in
theorem maybe_4_9 {h0 h1 h2 : Int} {h3 : Bool} {h4 h5 : Int} {A B : Ad} (hok : Fr_9.Ok ⟨h0, h1, h2, h3, h4, h5, A, B⟩) (e0 : h0 = 40) (e1 : inB h1 40 65575 = true) (e2 : h3 = false) (e3 : h4 = 0) (e4 : inB h2 0 255 = false) (w : World) :
    Calls Try.prog 56 #[frC_9 ⟨h0, h1, h2, h3, h4, h5, A, B⟩] w fun e w' => e = .returned (.bool false) ∧ Below w.heap.size w w' := by
  have hb1 := Blk_9.new w 65 (frL_9 ⟨h0, h1, h2, h3, h4, h5, A, B⟩)
  have hB1 := (Below.refl w.heap.size w).alloc (Nat.le_refl _) (.cells (frL_9 ⟨h0, h1, h2, h3, h4, h5, A, B⟩).toArray 65)
  have k0 := hb1.cell (i := 0) (v := .int .i64 h0) rfl
  have k1 := hb1.cell (i := 1) (v := .int .i64 h1) rfl
  have k2 := hb1.cell (i := 2) (v := .int .i64 h2) rfl
  have k3 := hb1.cell (i := 3) (v := .bool h3) rfl
  have k4 := hb1.cell (i := 4) (v := .int .i64 h4) rfl
  have k5 := hb1.cell (i := 5) (v := .int .i64 h5) rfl
  have k6 := hb1.cell (i := 6) (v := .bool A.six) rfl
  have k7 := hb1.dst hok 0 (.bool B.six) rfl
  rw [Nat.add_zero] at k7
  unfold frC_9
  generalize frL_9 ⟨h0, h1, h2, h3, h4, h5, A, B⟩ = C at *
  subst e0
  have H1 := Lib.hid (fun W => e1 ▸ within_any_9 h1 40 65575 W)
  subst e2
  subst e3
  have H4 := Lib.hid (fun W => e4 ▸ within_any_9 h2 0 255 W)
  clear hb1
  go_enter Try.func56, Try.ntmps56
  go_wp2_with fail
  refine (H1.out _).mono ?_
  rintro e w2 ⟨rfl, rfl⟩
  go_wp2_with fail
  refine (H4.out _).mono ?_
  rintro e w2 ⟨rfl, rfl⟩
  go_wp2_with fail
  go_ret
  exact ⟨rfl, hB1⟩
set_option maxRecDepth 100000 in
set_option maxHeartbeats 2000000 in
theorem maybe_5_9 {h0 h1 h2 : Int} {h3 : Bool} {h4 h5 : Int} {A B : Ad} (hok : Fr_9.Ok ⟨h0, h1, h2, h3, h4, h5, A, B⟩) (e0 : h0 = 40) (e1 : inB h1 40 65575 = true) (e2 : h3 = false) (e3 : h4 = 0) (e4 : inB h2 0 255 = true) (e5 : inB h5 0 255 = false) (w : World) :
    Calls Try.prog 56 #[frC_9 ⟨h0, h1, h2, h3, h4, h5, A, B⟩] w fun e w' => e = .returned (.bool false) ∧ Below w.heap.size w w' := by
  have hb1 := Blk_9.new w 65 (frL_9 ⟨h0, h1, h2, h3, h4, h5, A, B⟩)
  have hB1 := (Below.refl w.heap.size w).alloc (Nat.le_refl _) (.cells (frL_9 ⟨h0, h1, h2, h3, h4, h5, A, B⟩).toArray 65)
  have k0 := hb1.cell (i := 0) (v := .int .i64 h0) rfl
  have k1 := hb1.cell (i := 1) (v := .int .i64 h1) rfl
  have k2 := hb1.cell (i := 2) (v := .int .i64 h2) rfl
  have k3 := hb1.cell (i := 3) (v := .bool h3) rfl
  have k4 := hb1.cell (i := 4) (v := .int .i64 h4) rfl
  have k5 := hb1.cell (i := 5) (v := .int .i64 h5) rfl
  have k6 := hb1.cell (i := 6) (v := .bool A.six) rfl
  have k7 := hb1.dst hok 0 (.bool B.six) rfl
  rw [Nat.add_zero] at k7
  unfold frC_9
  generalize frL_9 ⟨h0, h1, h2, h3, h4, h5, A, B⟩ = C at *
  subst e0
  have H1 := Lib.hid (fun W => e1 ▸ within_any_9 h1 40 65575 W)
  subst e2
  subst e3
  have H4 := Lib.hid (fun W => e4 ▸ within_any_9 h2 0 255 W)
  have H5 := Lib.hid (fun W => e5 ▸ within_any_9 h5 0 255 W)
  clear hb1
  go_enter Try.func56, Try.ntmps56
  go_wp2_with fail
  refine (H1.out _).mono ?_
  rintro e w2 ⟨rfl, rfl⟩
  go_wp2_with fail
  refine (H4.out _).mono ?_
  rintro e w2 ⟨rfl, rfl⟩
  go_wp2_with fail
  refine (H5.out _).mono ?_
  rintro e w2 ⟨rfl, rfl⟩
  go_wp2_with fail
  go_ret
  exact ⟨rfl, hB1⟩
set_option maxRecDepth 100000 in
set_option maxHeartbeats 2000000 in
theorem maybe_6_9 {h0 h1 h2 : Int} {h3 : Bool} {h4 h5 : Int} {A B : Ad} (hok : Fr_9.Ok ⟨h0, h1, h2, h3, h4, h5, A, B⟩) (e0 : h0 = 40) (e1 : inB h1 40 65575 = true) (e2 : h3 = false) (e3 : h4 = 0) (e4 : inB h2 0 255 = true) (e5 : inB h5 0 255 = true) (e6 : extI h5 = true) (w : World) :
    Calls Try.prog 56 #[frC_9 ⟨h0, h1, h2, h3, h4, h5, A, B⟩] w fun e w' => e = .returned (.bool false) ∧ Below w.heap.size w w' := by
  have hb1 := Blk_9.new w 65 (frL_9 ⟨h0, h1, h2, h3, h4, h5, A, B⟩)
  have hB1 := (Below.refl w.heap.size w).alloc (Nat.le_refl _) (.cells (frL_9 ⟨h0, h1, h2, h3, h4, h5, A, B⟩).toArray 65)
  have k0 := hb1.cell (i := 0) (v := .int .i64 h0) rfl
  have k1 := hb1.cell (i := 1) (v := .int .i64 h1) rfl
  have k2 := hb1.cell (i := 2) (v := .int .i64 h2) rfl
  have k3 := hb1.cell (i := 3) (v := .bool h3) rfl
  have k4 := hb1.cell (i := 4) (v := .int .i64 h4) rfl
  have k5 := hb1.cell (i := 5) (v := .int .i64 h5) rfl
  have k6 := hb1.cell (i := 6) (v := .bool A.six) rfl
  have k7 := hb1.dst hok 0 (.bool B.six) rfl
  rw [Nat.add_zero] at k7
  unfold frC_9
  generalize frL_9 ⟨h0, h1, h2, h3, h4, h5, A, B⟩ = C at *
  subst e0
  have H1 := Lib.hid (fun W => e1 ▸ within_any_9 h1 40 65575 W)
  subst e2
  subst e3
  have H4 := Lib.hid (fun W => e4 ▸ within_any_9 h2 0 255 W)
  have H5 := Lib.hid (fun W => e5 ▸ within_any_9 h5 0 255 W)
  have H6 := Lib.hid (fun W => e6 ▸ isext_any h5 W)
  clear hb1
  go_enter Try.func56, Try.ntmps56
  go_wp2_with fail
  refine (H1.out _).mono ?_
  rintro e w2 ⟨rfl, rfl⟩
  go_wp2_with fail
  refine (H4.out _).mono ?_
  rintro e w2 ⟨rfl, rfl⟩
  go_wp2_with fail
  refine (H5.out _).mono ?_
  rintro e w2 ⟨rfl, rfl⟩
  go_wp2_with fail
  refine (H6.out _).mono ?_
  rintro e w2 ⟨rfl, rfl⟩
  go_wp2_with fail
  go_ret
  exact ⟨rfl, hB1⟩
set_option maxRecDepth 100000 in
set_option maxHeartbeats 2000000 in
theorem maybe_7_9 {h0 h1 h2 : Int} {h3 : Bool} {h4 h5 : Int} {A B : Ad} (hok : Fr_9.Ok ⟨h0, h1, h2, h3, h4, h5, A, B⟩) (e0 : h0 = 40) (e1 : inB h1 40 65575 = true) (e2 : h3 = false) (e3 : h4 = 0) (e4 : inB h2 0 255 = true) (e5 : inB h5 0 255 = true) (e6 : extI h5 = false) (e7 : A.six = false) (w : World) :
    Calls Try.prog 56 #[frC_9 ⟨h0, h1, h2, h3, h4, h5, A, B⟩] w fun e w' => e = .returned (.bool false) ∧ Below w.heap.size w w' := by
  have hb1 := Blk_9.new w 65 (frL_9 ⟨h0, h1, h2, h3, h4, h5, A, B⟩)
  have hB1 := (Below.refl w.heap.size w).alloc (Nat.le_refl _) (.cells (frL_9 ⟨h0, h1, h2, h3, h4, h5, A, B⟩).toArray 65)
  have k0 := hb1.cell (i := 0) (v := .int .i64 h0) rfl
  have k1 := hb1.cell (i := 1) (v := .int .i64 h1) rfl
  have k2 := hb1.cell (i := 2) (v := .int .i64 h2) rfl
  have k3 := hb1.cell (i := 3) (v := .bool h3) rfl
  have k4 := hb1.cell (i := 4) (v := .int .i64 h4) rfl
  have k5 := hb1.cell (i := 5) (v := .int .i64 h5) rfl
  have k6 := hb1.cell (i := 6) (v := .bool A.six) rfl
  have k7 := hb1.dst hok 0 (.bool B.six) rfl
  rw [Nat.add_zero] at k7
  unfold frC_9
  generalize frL_9 ⟨h0, h1, h2, h3, h4, h5, A, B⟩ = C at *
  subst e0
  have H1 := Lib.hid (fun W => e1 ▸ within_any_9 h1 40 65575 W)
  subst e2
  subst e3
  have H4 := Lib.hid (fun W => e4 ▸ within_any_9 h2 0 255 W)
  have H5 := Lib.hid (fun W => e5 ▸ within_any_9 h5 0 255 W)
  have H6 := Lib.hid (fun W => e6 ▸ isext_any h5 W)
  rw [e7] at k6
  clear hb1
  go_enter Try.func56, Try.ntmps56
  go_wp2_with fail
  refine (H1.out _).mono ?_
  rintro e w2 ⟨rfl, rfl⟩
  go_wp2_with fail
  refine (H4.out _).mono ?_
  rintro e w2 ⟨rfl, rfl⟩
  go_wp2_with fail
  refine (H5.out _).mono ?_
  rintro e w2 ⟨rfl, rfl⟩
  go_wp2_with fail
  refine (H6.out _).mono ?_
  rintro e w2 ⟨rfl, rfl⟩
  go_wp2_with fail
  go_ret
  exact ⟨rfl, hB1⟩
set_option maxRecDepth 100000 in
set_option maxHeartbeats 2000000 in
theorem maybe_8_9 {h0 h1 h2 : Int} {h3 : Bool} {h4 h5 : Int} {A B : Ad} (hok : Fr_9.Ok ⟨h0, h1, h2, h3, h4, h5, A, B⟩) (e0 : h0 = 40) (e1 : inB h1 40 65575 = true) (e2 : h3 = false) (e3 : h4 = 0) (e4 : inB h2 0 255 = true) (e5 : inB h5 0 255 = true) (e6 : extI h5 = false) (e7 : A.six = true) (e8 : B.six = false) (w : World) :
    Calls Try.prog 56 #[frC_9 ⟨h0, h1, h2, h3, h4, h5, A, B⟩] w fun e w' => e = .returned (.bool false) ∧ Below w.heap.size w w' := by
  have hb1 := Blk_9.new w 65 (frL_9 ⟨h0, h1, h2, h3, h4, h5, A, B⟩)
  have hB1 := (Below.refl w.heap.size w).alloc (Nat.le_refl _) (.cells (frL_9 ⟨h0, h1, h2, h3, h4, h5, A, B⟩).toArray 65)
  have k0 := hb1.cell (i := 0) (v := .int .i64 h0) rfl
  have k1 := hb1.cell (i := 1) (v := .int .i64 h1) rfl
  have k2 := hb1.cell (i := 2) (v := .int .i64 h2) rfl
  have k3 := hb1.cell (i := 3) (v := .bool h3) rfl
  have k4 := hb1.cell (i := 4) (v := .int .i64 h4) rfl
  have k5 := hb1.cell (i := 5) (v := .int .i64 h5) rfl
  have k6 := hb1.cell (i := 6) (v := .bool A.six) rfl
  have k7 := hb1.dst hok 0 (.bool B.six) rfl
  rw [Nat.add_zero] at k7
  unfold frC_9
  generalize frL_9 ⟨h0, h1, h2, h3, h4, h5, A, B⟩ = C at *
  subst e0
  have H1 := Lib.hid (fun W => e1 ▸ within_any_9 h1 40 65575 W)
  subst e2
  subst e3
  have H4 := Lib.hid (fun W => e4 ▸ within_any_9 h2 0 255 W)
  have H5 := Lib.hid (fun W => e5 ▸ within_any_9 h5 0 255 W)
  have H6 := Lib.hid (fun W => e6 ▸ isext_any h5 W)
  rw [e7] at k6
  rw [e8] at k7
  clear hb1
  go_enter Try.func56, Try.ntmps56
  go_wp2_with fail
  refine (H1.out _).mono ?_
  rintro e w2 ⟨rfl, rfl⟩
  go_wp2_with fail
  refine (H4.out _).mono ?_
  rintro e w2 ⟨rfl, rfl⟩
  go_wp2_with fail
  refine (H5.out _).mono ?_
  rintro e w2 ⟨rfl, rfl⟩
  go_wp2_with fail
  refine (H6.out _).mono ?_
  rintro e w2 ⟨rfl, rfl⟩
  go_wp2_with fail
  go_ret
  exact ⟨rfl, hB1⟩
set_option maxRecDepth 100000 in
set_option maxHeartbeats 2000000 in
theorem maybe_9_9 {h0 h1 h2 : Int} {h3 : Bool} {h4 h5 : Int} {A B : Ad} (hok : Fr_9.Ok ⟨h0, h1, h2, h3, h4, h5, A, B⟩) (e0 : h0 = 40) (e1 : inB h1 40 65575 = true) (e2 : h3 = false) (e3 : h4 = 0) (e4 : inB h2 0 255 = true) (e5 : inB h5 0 255 = true) (e6 : extI h5 = false) (e7 : A.six = true) (e8 : B.six = true) (w : World) :
    Calls Try.prog 56 #[frC_9 ⟨h0, h1, h2, h3, h4, h5, A, B⟩] w fun e w' => e = .returned (.bool true) ∧ Below w.heap.size w w' := by
  have hb1 := Blk_9.new w 65 (frL_9 ⟨h0, h1, h2, h3, h4, h5, A, B⟩)
  have hB1 := (Below.refl w.heap.size w).alloc (Nat.le_refl _) (.cells (frL_9 ⟨h0, h1, h2, h3, h4, h5, A, B⟩).toArray 65)
  have k0 := hb1.cell (i := 0) (v := .int .i64 h0) rfl
  have k1 := hb1.cell (i := 1) (v := .int .i64 h1) rfl
  have k2 := hb1.cell (i := 2) (v := .int .i64 h2) rfl
  have k3 := hb1.cell (i := 3) (v := .bool h3) rfl
  have k4 := hb1.cell (i := 4) (v := .int .i64 h4) rfl
  have k5 := hb1.cell (i := 5) (v := .int .i64 h5) rfl
  have k6 := hb1.cell (i := 6) (v := .bool A.six) rfl
  have k7 := hb1.dst hok 0 (.bool B.six) rfl
  rw [Nat.add_zero] at k7
  unfold frC_9
  generalize frL_9 ⟨h0, h1, h2, h3, h4, h5, A, B⟩ = C at *
  subst e0
  have H1 := Lib.hid (fun W => e1 ▸ within_any_9 h1 40 65575 W)
  subst e2
  subst e3
  have H4 := Lib.hid (fun W => e4 ▸ within_any_9 h2 0 255 W)
  have H5 := Lib.hid (fun W => e5 ▸ within_any_9 h5 0 255 W)
  have H6 := Lib.hid (fun W => e6 ▸ isext_any h5 W)
  rw [e7] at k6
  rw [e8] at k7
  clear hb1
  go_enter Try.func56, Try.ntmps56
  go_wp2_with fail
  refine (H1.out _).mono ?_
  rintro e w2 ⟨rfl, rfl⟩
  go_wp2_with fail
  refine (H4.out _).mono ?_
  rintro e w2 ⟨rfl, rfl⟩
  go_wp2_with fail
  refine (H5.out _).mono ?_
  rintro e w2 ⟨rfl, rfl⟩
  go_wp2_with fail
  refine (H6.out _).mono ?_
  rintro e w2 ⟨rfl, rfl⟩
  go_wp2_with fail
  go_ret
  exact ⟨rfl, hB1⟩
theorem maybe_any_9 {f : Fr_9} (hok : f.Ok) (w : World) : Calls Try.prog 56 #[frC_9 f] w fun e w' => e = .returned (.bool (rightB_9 f)) ∧ Below w.heap.size w w' := by
  obtain ⟨h0, h1, h2, h3, h4, h5, A, B⟩ := f
  by_cases e0 : h0 = 40
  rotate_left
  · have hr : rightB_9 ⟨h0, h1, h2, h3, h4, h5, A, B⟩ = false := Bool.eq_false_iff.2 fun h => by have g := right_good_9 h; have : h0 = 40 := g.head; exact e0 this
    rw [hr]; exact maybe_0_9 hok  e0 w
  by_cases e1 : inB h1 40 65575 = true
  rotate_left
  · have hr : rightB_9 ⟨h0, h1, h2, h3, h4, h5, A, B⟩ = false := Bool.eq_false_iff.2 fun h => by have g := right_good_9 h; have : inB h1 40 65575 = true := decide_eq_true ⟨g.t0, g.t1⟩; exact e1 this
    rw [hr]; exact maybe_1_9 hok e0 (by simpa using e1) w
  by_cases e2 : h3 = false
  rotate_left
  · have hr : rightB_9 ⟨h0, h1, h2, h3, h4, h5, A, B⟩ = false := Bool.eq_false_iff.2 fun h => by have g := right_good_9 h; have : h3 = false := g.frag; exact e2 this
    rw [hr]; exact maybe_2_9 hok e0 e1 (by simpa using e2) w
  by_cases e3 : h4 = 0
  rotate_left
  · have hr : rightB_9 ⟨h0, h1, h2, h3, h4, h5, A, B⟩ = false := Bool.eq_false_iff.2 fun h => by have g := right_good_9 h; have : h4 = 0 := g.exts; exact e3 this
    rw [hr]; exact maybe_3_9 hok e0 e1 e2 e3 w
  by_cases e4 : inB h2 0 255 = true
  rotate_left
  · have hr : rightB_9 ⟨h0, h1, h2, h3, h4, h5, A, B⟩ = false := Bool.eq_false_iff.2 fun h => by have g := right_good_9 h; have : inB h2 0 255 = true := decide_eq_true ⟨g.o0, g.o1⟩; exact e4 this
    rw [hr]; exact maybe_4_9 hok e0 e1 e2 e3 (by simpa using e4) w
  by_cases e5 : inB h5 0 255 = true
  rotate_left
  · have hr : rightB_9 ⟨h0, h1, h2, h3, h4, h5, A, B⟩ = false := Bool.eq_false_iff.2 fun h => by have g := right_good_9 h; have : inB h5 0 255 = true := decide_eq_true ⟨g.p0, g.p1⟩; exact e5 this
    rw [hr]; exact maybe_5_9 hok e0 e1 e2 e3 e4 (by simpa using e5) w
  by_cases e6 : extI h5 = false
  rotate_left
  · have hr : rightB_9 ⟨h0, h1, h2, h3, h4, h5, A, B⟩ = false := Bool.eq_false_iff.2 fun h => by have g := right_good_9 h; have : extI h5 = false := g.ext; exact e6 this
    rw [hr]; exact maybe_6_9 hok e0 e1 e2 e3 e4 e5 (by simpa using e6) w
  by_cases e7 : A.six = true
  rotate_left
  · have hr : rightB_9 ⟨h0, h1, h2, h3, h4, h5, A, B⟩ = false := Bool.eq_false_iff.2 fun h => by have g := right_good_9 h; have : A.six = true := g.s; exact e7 this
    rw [hr]; exact maybe_7_9 hok e0 e1 e2 e3 e4 e5 e6 (by simpa using e7) w
  by_cases e8 : B.six = true
  rotate_left
  · have hr : rightB_9 ⟨h0, h1, h2, h3, h4, h5, A, B⟩ = false := Bool.eq_false_iff.2 fun h => by have g := right_good_9 h; have : B.six = true := g.d; exact e8 this
    rw [hr]; exact maybe_8_9 hok e0 e1 e2 e3 e4 e5 e6 e7 (by simpa using e8) w
  rw [show rightB_9 ⟨h0, h1, h2, h3, h4, h5, A, B⟩ = true by simp [rightB_9, *]]; exact maybe_9_9 hok e0 e1 e2 e3 e4 e5 e6 e7 e8 w
end
section
open Go.RowKit Go.Lib
theorem splice_n (N : Nat) : splice ((hdr_9 0 0 0 z16 z16).map v8) 4 ((be2 N).map v8) = (hdr_9 N 0 0 z16 z16).map v8 := by rfl
theorem splice_s_9 (N P H : Nat) (s d e : List UInt8) (hs : s.length = 16) (he : e.length = 16) : splice ((hdr_9 N P H e d).map v8) 8 (s.map v8) = (hdr_9 N P H s d).map v8 := by
  obtain ⟨a0, a1, a2, a3, a4, a5, a6, a7, a8, a9, a10, a11, a12, a13, a14, a15, rfl⟩ := sixteen hs
  obtain ⟨b0, b1, b2, b3, b4, b5, b6, b7, b8, b9, b10, b11, b12, b13, b14, b15, rfl⟩ := sixteen he
  rfl
theorem splice_d_9 (N P H : Nat) (s d e : List UInt8) (hs : s.length = 16) (hd : d.length = 16) (he : e.length = 16) : splice ((hdr_9 N P H s e).map v8) 24 (d.map v8) = (hdr_9 N P H s d).map v8 := by
  obtain ⟨a0, a1, a2, a3, a4, a5, a6, a7, a8, a9, a10, a11, a12, a13, a14, a15, rfl⟩ := sixteen hs
  obtain ⟨b0, b1, b2, b3, b4, b5, b6, b7, b8, b9, b10, b11, b12, b13, b14, b15, rfl⟩ := sixteen he
  obtain ⟨c0, c1, c2, c3, c4, c5, c6, c7, c8, c9, c10, c11, c12, c13, c14, c15, rfl⟩ := sixteen hd
  rfl
/-- A byte stored into a row of bytes: a law for the walk; the world behind it is a letter. -/
theorem wpList_store8_9 {w : World} {ops : Array Oper} {rest : List Oper} {op : Oper} {a : Act} {Q : Exit → Act → World → Prop} (hgd : op.guard = none) (x y : Operand) (ho : op.op = .store 5 x y)
    (g i : Nat) (hx : a.eval x = .pointer (some ⟨g, i, none⟩)) (b : UInt8) (n : Int) (hn : n = (b.toNat : Int)) (hy : a.eval y = .int .u8 n) (xs : List UInt8) (hrow : Row8 w g xs) (hi : i < xs.length)
    (h : ∀ w', Row8 w' g (xs.set i b) → Below g w w' → wpList Try.prog ops Q rest (a.put op.dst undef) w') : wpList Try.prog ops Q (op :: rest) a w := by
  subst hn
  refine wpList_plain hgd fun K hK => ?_
  have hc := hrow.cell (i := i) (List.getElem?_eq_getElem hi)
  have hf := hrow.frozen i
  have hk := h _ (hrow.set i b) ((Below.refl g w).setCell (p := ⟨g, i, none⟩) (Nat.le_refl _) _)
  unfold v8 at hc
  unfold Oper.wp execOp
  simp only [ho, hx, hy]
  clear h
  go_simp
  exact hK _ _ hk
set_option maxRecDepth 100000 in
set_option maxHeartbeats 1000000 in
theorem put_no_9 {f : Fr_9} (hok : f.Ok) (hr : rightB_9 f = false) (w : World) :
    Calls Try.prog 39 #[frC_9 f] w fun e w' => e = .returned (.tuple #[.slice none 0 0, .int .i64 1]) ∧ Below w.heap.size w w' := by
  have hb1 := Blk_9.new w 65 (frL_9 f)
  have hB1 := (Below.refl w.heap.size w).alloc (Nat.le_refl _) (.cells (frL_9 f).toArray 65)
  have HM := Lib.hid (fun W => hr ▸ maybe_any_9 hok W)
  have HB := Lib.hid hb1
  have HB1 := Lib.hid hB1
  have HOK := Lib.hid hok
  clear hb1 hB1 hr hok
  go_enter Try.func39, Try.ntmps39
  unfold frC_9
  go_wp2_with ((with_reducible show wpList _ _ _ _ _ _); refine wpList_loadF_9 rfl _ rfl w.heap.size (by rfl) f HOK.out HB.out ?_)
  refine (HM.out _).mono ?_
  rintro e w2 ⟨rfl, hb2⟩
  go_wp2_with fail
  go_ret2
  exact ⟨rfl, HB1.out.trans (hb2.mono HB1.out.size)⟩
set_option maxRecDepth 100000 in
set_option maxHeartbeats 4000000 in
theorem put_yes_9 {f : Fr_9} (hok : f.Ok) (hr : rightB_9 f = true) (w : World) :
    Calls Try.prog 39 #[frC_9 f] w fun e w' => ∃ v, e = .returned (.tuple #[v, .int .i64 0]) ∧ Own8 w' w.heap.size v (putF_9 f) ∧ Below w.heap.size w w' := by
  obtain ⟨N, P, H, hf, n1, h1, p1, _⟩ := (right_good_9 hr).nats
  have hput : putF_9 f = hdr_9 N P H f.s.b f.d.b := by rw [hf]; exact putF_nats N P H _ _
  obtain ⟨T, hT⟩ : ∃ T, 40 + N = T := ⟨_, rfl⟩
  rw [hT] at hf
  have HM := Lib.hid (fun W => hr ▸ maybe_any_9 hok W)
  have hb1 := Blk_9.new w 65 (frL_9 f)
  have hB1 := (Below.refl w.heap.size w).alloc (Nat.le_refl _) (.cells (frL_9 f).toArray 65)
  have HB := Lib.hid hb1
  have HB1 := Lib.hid hB1
  have HOK := Lib.hid hok
  have HPUT := Lib.hid hput
  have HSRC := Lib.hid (fun W (hW : Blk_9 W 65 w.heap.size (frL_9 f)) => hW.srcB)
  have HDST := Lib.hid (fun W (hW : Blk_9 W 65 w.heap.size (frL_9 f)) => hW.dstB hok)
  have HFIELD := Lib.hid (fun (W : World) (hW : Blk_9 W 65 w.heap.size (frL_9 f)) => show W.cell? ⟨w.heap.size, 1, none⟩ = some (.int .i64 (T : Int)) ∧ W.cell? ⟨w.heap.size, 2, none⟩ = some (.int .i64 (H : Int)) ∧ W.cell? ⟨w.heap.size, 5, none⟩ = some (.int .i64 (P : Int)) from
    ⟨hW.cell (by rw [hf]; rfl), hW.cell (by rw [hf]; rfl), hW.cell (by rw [hf]; rfl)⟩)
  obtain ⟨s, hs⟩ : ∃ s, f.s.b = s := ⟨_, rfl⟩
  obtain ⟨d, hd⟩ : ∃ d, f.d.b = d := ⟨_, rfl⟩
  have hs16 := hok.s
  have hd16 := hok.d
  rw [hs] at hs16 HSRC HPUT
  rw [hd] at hd16 HDST HPUT
  have HS16 := Lib.hid hs16
  have HD16 := Lib.hid hd16
  have hsub : IntKind.i64.wrap ((T : Int) - 40) = (N : Int) := by rw [IntKind.wrap_i64]; omega
  have hwn : IntKind.u64.wrap (N : Int) = (N : Int) := by rw [IntKind.wrap_u64]; omega
  have u1 : IntKind.u8.wrap (P : Int) = (P : Int) := by rw [IntKind.wrap_u8]; omega
  have u2 : IntKind.u8.wrap (H : Int) = (H : Int) := by rw [IntKind.wrap_u8]; omega
  have HU1 := Lib.hid (show (P : Int) = ((UInt8.ofNat P).toNat : Int) by rw [u8nat p1])
  have HU2 := Lib.hid (show (H : Int) = ((UInt8.ofNat H).toNat : Int) by rw [u8nat h1])
  have HU96 := Lib.hid (show (96 : Int) = ((96 : UInt8).toNat : Int) from rfl)
  have hp := fun W => put_any N 2 true W
  rw [show bytesOf N (sizeOf8 2) true = be2 N from be2_dig N] at hp
  have HP := Lib.hid hp
  clear hb1 hB1 hr hok hput hf hs hd hs16 hd16 hp hT
  go_enter Try.func39, Try.ntmps39
  unfold frC_9
  go_wp2_with ((with_reducible show wpList _ _ _ _ _ _); refine wpList_loadF_9 rfl _ rfl w.heap.size (by rfl) f HOK.out HB.out ?_)
  refine (HM.out _).mono ?_
  rintro e w2 ⟨rfl, hb2⟩
  have hmk : ∀ W : World, (Instr.makeSlice 22 (.int .i64 40) (.int .i64 40)).run Try.prog W = .ok (.slice (some ⟨W.heap.size, 0, none⟩) 40 40) (W.alloc (.cells (madeCells #[.int .u8 0] 40) 5)) := fun W => run_make8 40 40 (Nat.le_refl _) (by omega) W
  have z2 : w.heap.size < w2.heap.size := by have := hb2.size; simp at this; omega
  have HQ2 := HB.out.below (by simp) hb2
  have HB2 := HB1.out.trans (hb2.mono HB1.out.size)
  have hrow : Row8 (w2.alloc (.cells (madeCells #[.int .u8 0] 40) 5)) w2.heap.size (List.replicate 40 0) := Row8.made w2 40
  have HQ3 := HQ2.alloc (.cells (madeCells #[.int .u8 0] 40) 5)
  have HB3 := HB2.alloc HB2.size (.cells (madeCells #[.int .u8 0] 40) 5)
  obtain ⟨w3, hw3⟩ : ∃ w3, w2.alloc (.cells (madeCells #[.int .u8 0] 40) 5) = w3 := ⟨_, rfl⟩
  obtain ⟨g, hg⟩ : ∃ g, w2.heap.size = g := ⟨_, rfl⟩
  have hmk2 := hmk w2
  rw [hw3, hg] at hmk2
  rw [hw3, hg] at hrow
  rw [hw3] at HQ3 HB3
  rw [hg] at z2
  have HGP := Lib.hid z2
  have HGW := Lib.hid (Nat.le_of_lt z2)
  have HR3 := Lib.hid hrow
  have HQ3 := Lib.hid HQ3
  have HB3 := Lib.hid HB3
  clear hw3 hmk hb2 HQ2 HB2 hrow hg z2 HM HB HB1
  go_wp2_with ((with_reducible show wpList _ _ _ _ _ _); refine wpList_store8_9 rfl (.tmp 10) _ rfl g 0 (by rfl) (96 : UInt8) 96 HU96.out (by rfl) _ HR3.out (by simp) ?_; intro w4 hR4 hB4; have hR4' : Row8 w4 g (hdr_9 0 0 0 z16 z16) := hR4; have HR4 := Lib.hid hR4'; have HQ4 := Lib.hid (HQ3.out.below HGP.out hB4); have HB4 := Lib.hid (HB3.out.trans (hB4.mono HGW.out)); obtain ⟨j1, _, _⟩ := HFIELD.out w4 HQ4.out; clear hR4 hR4' hB4)
  have j1d : w4.drew.cell? ⟨w.heap.size, 1, none⟩ = some (.int .i64 (T : Int)) := j1
  have hl0 : (hdr_9 0 0 0 z16 z16).length = 40 := rfl
  have hgl := HR4.out.lt
  have HL0 := Lib.hid hl0
  clear hl0
  go_region_law (first
    | (rw [if_pos (by rfl)]; go_simp; refine (HP.out _).mono ?_; rintro e w5 ⟨v, rfl, hown, hb⟩; obtain ⟨A1, m1, c1, rfl, hm1, _, _, hrd⟩ := hown.sl; have hm2 : m1 = 2 := hm1; subst hm2; obtain ⟨ad, rfl, hc⟩ := hrd.cells (by omega); have HD := Lib.hid hc; have HB5 := Lib.hid hb; have hR5 : Row8 w5 g (hdr_9 0 0 0 z16 z16) := (hb.block g hgl).trans HR4.out; have HR5 := Lib.hid hR5; clear hc hm1 hb hown hrd hR5)
    | (refine step_copy_splice rfl (.tmp 12) (.tmp 17) 22 22 rfl 5 Try.underlying22 size8 (some ⟨g, 4, none⟩) (some ad) 36 36 2 c1 (by simp [Act.eval]) (by simp [Act.eval]) g 4 ((hdr_9 0 0 0 z16 z16).map v8) 5 HR5.out ((be2 N).map v8) (by rw [List.length_map, be2_len]; rfl) (fun h0 => ⟨rfl, ad, rfl, HD.out⟩) (by rw [List.length_map, List.length_map, be2_len, HL0.out]; decide) (oneCell8 _) g w5 (Below.refl _ _) (Nat.le_refl _) ?_; intro w6 HG6 hB6; rw [splice_n] at HG6))
  have HR6 : Hid (Row8 w6 g (hdr_9 N 0 0 z16 z16)) := Lib.hid HG6.out
  have hB46 : Below g w4 w6 := (below_drewN (Below.refl g w4) 1).trans ((HB5.out.mono (Nat.le_of_lt hgl)).trans hB6)
  have HQ6 := Lib.hid (HQ4.out.below HGP.out hB46)
  have HB6 := Lib.hid (HB4.out.trans (hB46.mono HGW.out))
  obtain ⟨_, j2, j5⟩ := HFIELD.out w6 HQ6.out
  have HL1 := Lib.hid (show (hdr_9 N 0 0 z16 z16).length = 40 from rfl)
  have HL2 := Lib.hid (show (hdr_9 N P 0 z16 z16).length = 40 from rfl)
  have HL3 := Lib.hid (show (hdr_9 N P H z16 z16).length = 40 from rfl)
  have HL4 := Lib.hid (show (hdr_9 N P H s z16).length = 40 from hdr_len_9 _ _ _ _ _ HS16.out rfl)
  have HL5 := Lib.hid (show (hdr_9 N P H s d).length = 40 from hdr_len_9 _ _ _ _ _ HS16.out HD16.out)
  clear HG6 hB6 hB46 HB5 HR5 HD j1 j1d HR4 HQ4 HB4 hgl hsub hwn
  go_wp2_with (first
    | ((with_reducible show wpList _ _ _ _ _ _); refine wpList_store8_9 rfl (.tmp 27) (.tmp 23) rfl g 6 (by rfl) (UInt8.ofNat P) (P : Int) HU1.out (by rfl) _ HR6.out (by rw [HL1.out]; decide) ?_; intro wa hRa hBa; have hRa' : Row8 wa g (hdr_9 N P 0 z16 z16) := hRa; have HRa := Lib.hid hRa'; have HBa := Lib.hid hBa; clear hRa hBa hRa')
    | ((with_reducible show wpList _ _ _ _ _ _); refine wpList_store8_9 rfl (.tmp 28) (.tmp 26) rfl g 7 (by rfl) (UInt8.ofNat H) (H : Int) HU2.out (by rfl) _ HRa.out (by rw [HL2.out]; decide) ?_; intro wb hRb hBb; have hRb' : Row8 wb g (hdr_9 N P H z16 z16) := hRb; have HRb := Lib.hid hRb'; have HQb := Lib.hid ((HQ6.out.below HGP.out HBa.out).below HGP.out hBb); have HBb := Lib.hid (HB6.out.trans ((HBa.out.trans hBb).mono HGW.out)); clear hRb hBb hRb' HRa HBa))
  go_region_law (refine step_copy_splice rfl (.tmp 30) (.tmp 33) 22 22 rfl 5 Try.underlying22 size8 (some ⟨g, 8, none⟩) (some ⟨w.heap.size, 7, none⟩) 32 32 16 16 (by simp [Act.eval, Act.put]) (by simp [Act.eval, Act.put]) g 8 ((hdr_9 N P H z16 z16).map v8) 5 HRb.out (s.map v8) (by rw [List.length_map, HS16.out]; rfl) (fun h0 => ⟨rfl, ⟨w.heap.size, 7, none⟩, rfl, fun j v hv => by rw [add_plain]; exact HSRC.out wb HQb.out j v hv⟩) (by rw [List.length_map, List.length_map, HS16.out, HL3.out]; decide) (oneCell8 _) g wb (Below.refl _ _).drew (Nat.le_refl _) ?_; intro wc hRc hBc; rw [List.length_map, HS16.out])
  rw [splice_s_9 _ _ _ _ _ _ HS16.out rfl] at hRc
  have HRc := Lib.hid hRc.out
  have HQc := Lib.hid (HQb.out.below HGP.out hBc)
  have HBc := Lib.hid (HBb.out.trans (hBc.mono HGW.out))
  clear hRc hBc HRb HQb HBb
  go_wp2_with fail
  go_region_law (refine step_copy_splice rfl (.tmp 36) (.tmp 39) 22 22 rfl 5 Try.underlying22 size8 (some ⟨g, 24, none⟩) (some ⟨w.heap.size, 24, none⟩) 16 16 16 16 (by simp [Act.eval, Act.put]) (by simp [Act.eval, Act.put]) g 24 ((hdr_9 N P H s z16).map v8) 5 HRc.out (d.map v8) (by rw [List.length_map, HD16.out]; rfl) (fun h0 => ⟨rfl, ⟨w.heap.size, 24, none⟩, rfl, fun j v hv => by rw [add_plain]; exact HDST.out wc HQc.out j v hv⟩) (by rw [List.length_map, List.length_map, HD16.out, HL4.out]; decide) (oneCell8 _) g wc (Below.refl _ _).drew (Nat.le_refl _) ?_; intro wd hRd hBd; rw [List.length_map, HD16.out])
  rw [splice_d_9 _ _ _ _ _ _ HS16.out HD16.out rfl] at hRd
  have hRd' : Row8 wd g (hdr_9 N P H s d) := hRd.out
  have HBd := Lib.hid (HBc.out.trans (hBd.mono HGW.out))
  have how := hRd'.own (base := w.heap.size) HGW.out (Nat.le_refl _) (by rw [HL5.out]; simp [maxLen])
  rw [List.take_length, HL5.out] at how
  have HOW := Lib.hid how
  clear hRd hRd' hBd HRc HQc HBc how
  go_wp2_with fail
  go_ret2
  exact ⟨_, rfl, by rw [HPUT.out]; exact HOW.out, HBd.out⟩
end
section
open Go.RowKit Go.Lib
/-- The cells of block g, from its head on, are just the bytes cur, and may be written. -/
def Held_9 (w : World) (g : Nat) (cur : List UInt8) : Prop := ∀ j y, cur[j]? = some y → w.cell? ⟨g, j, none⟩ = some (v8 y) ∧ w.frozen? ⟨g, j, none⟩ = false
theorem Held_9.set {w : World} {g : Nat} {cur : List UInt8} (h : Held_9 w g cur) {k : Nat} {x : UInt8} (hx : cur[k]? = some x) (y : UInt8) : Held_9 (w.setCell ⟨g, k, none⟩ (.int .u8 (y.toNat : Int))) g (cur.set k y) := by
  intro j z hz
  rw [World.frozen?_setCell]
  have hk : k < cur.length := (List.getElem?_eq_some_iff.1 hx).1
  rw [List.getElem?_set] at hz
  by_cases e : k = j
  · subst e
    simp [hk] at hz
    subst hz
    exact ⟨World.cell?_setCell_same _ _ _ (h k x hx).1, (h k x hx).2⟩
  · rw [if_neg e] at hz
    rw [World.cell?_setCell_other _ _ _ _ (by intro e'; cases e'; exact e rfl)]
    exact h j z hz
theorem Held_9.rd {w : World} {g : Nat} {cur : List UInt8} (h : Held_9 w g cur) {B n : Nat} (hg : g < B) (hn : cur.length = n) : Rd w B (some ⟨g, 0, none⟩) n cur :=
  ⟨hn, fun _ => ⟨g, 0, rfl, hg, fun j x hx => by rw [Nat.zero_add]; exact (h j x hx).1⟩⟩
theorem Held_9.below {w w' : World} {g B : Nat} {cur : List UInt8} (h : Held_9 w g cur) (hB : g < B) (hb : Below B w w') : Held_9 w' g cur := fun j y hy => by
  obtain ⟨h1, h2⟩ := h j y hy
  refine ⟨(hb.cell (p := ⟨g, j, none⟩) hB).trans h1, ?_⟩
  have := hb.block g hB
  unfold World.frozen? at h2 ⊢
  simpa [this] using h2
theorem Held_9.lt {w : World} {g : Nat} {cur : List UInt8} (h : Held_9 w g cur) (h0 : 0 < cur.length) : g < w.heap.size := by
  obtain ⟨h1, _⟩ := h 0 _ (List.getElem?_eq_getElem h0)
  exact World.block_lt_of_cell? w _ h1
theorem hdr_cells_9 {N P H : Nat} (nl : N < 65536) (pl : P < 256) (hl : H < 256) : ((hdr_9 N P H [] []).map v8).toArray = #[.int .u8 96, .int .u8 0, .int .u8 0, .int .u8 0, .int .u8 ((N : Int) / 256), .int .u8 ((N : Int) % 256), .int .u8 (P : Int), .int .u8 (H : Int)] := by
  show ([96, 0, 0, 0, UInt8.ofNat (N / 256), UInt8.ofNat (N % 256), UInt8.ofNat P, UInt8.ofNat H].map v8).toArray = _
  simp only [List.map_cons, List.map_nil]
  rw [v8_of (N / 256) (by omega), v8_of (N % 256) (by omega), v8_of P pl, v8_of H hl]
  rfl
set_option maxRecDepth 100000 in
set_option maxHeartbeats 4000000 in
theorem rput_any_9 {f : Fr_9} (hok : f.Ok) (hr : rightB_9 f = true) (w : World) :
    Calls Try.prog 27 #[frC_9 f] w fun e w' => ∃ v, e = .returned v ∧ Own8 w' w.heap.size v (putF_9 f) ∧ Below w.heap.size w w' := by
  obtain ⟨N, P, H, hf, n1, h1, p1, _⟩ := (right_good_9 hr).nats
  have hput : putF_9 f = hdr_9 N P H f.s.b f.d.b := by rw [hf]; exact putF_nats N P H _ _
  obtain ⟨T, hT⟩ : ∃ T, 40 + N = T := ⟨_, rfl⟩
  rw [hT] at hf
  have HOK := Lib.hid hok
  have HPUT := Lib.hid hput
  have HSRC := Lib.hid (fun W (hW : Blk_9 W 65 w.heap.size (frL_9 f)) => hW.srcB)
  have HDST := Lib.hid (fun W (hW : Blk_9 W 65 w.heap.size (frL_9 f)) => hW.dstB hok)
  obtain ⟨s, hs⟩ : ∃ s, f.s.b = s := ⟨_, rfl⟩
  obtain ⟨d, hd⟩ : ∃ d, f.d.b = d := ⟨_, rfl⟩
  have hs16 := hok.s
  have hd16 := hok.d
  rw [hs] at hs16 HSRC HPUT
  rw [hd] at hd16 HDST HPUT
  have HS16 := Lib.hid hs16
  have HD16 := Lib.hid hd16
  have hb1 := Blk_9.new w 65 (frL_9 f)
  have k1 := hb1.cell (i := 1) (v := .int .i64 (T : Int)) (by rw [hf]; rfl)
  have k2 := hb1.cell (i := 2) (v := .int .i64 (H : Int)) (by rw [hf]; rfl)
  have k5 := hb1.cell (i := 5) (v := .int .i64 (P : Int)) (by rw [hf]; rfl)
  have hrow : Row8 ((w.alloc (.cells (frL_9 f).toArray 65)).alloc (.cells ((hdr_9 N P H [] []).map v8).toArray 5)) (w.heap.size + 1) (hdr_9 N P H [] []) := by
    have := heap_alloc_new (w.alloc (.cells (frL_9 f).toArray 65)) (.cells ((hdr_9 N P H [] []).map v8).toArray 5)
    simpa [Row8] using this
  have hq1 := hb1.alloc (.cells ((hdr_9 N P H [] []).map v8).toArray 5)
  have hB1 := ((Below.refl w.heap.size w).alloc (Nat.le_refl _) (.cells (frL_9 f).toArray 65)).alloc (by simp) (.cells ((hdr_9 N P H [] []).map v8).toArray 5)
  obtain ⟨w1, hw1⟩ : ∃ w1, (w.alloc (.cells (frL_9 f).toArray 65)).alloc (.cells ((hdr_9 N P H [] []).map v8).toArray 5) = w1 := ⟨_, rfl⟩
  rw [hw1] at hrow hq1 hB1
  rw [hdr_cells_9 n1 p1 h1] at hw1
  have HW1 := Lib.hid hw1
  have HQ := Lib.hid hq1
  have HBL := Lib.hid hB1
  have HO : Hid (Own8 w1 (w.heap.size + 1) (.slice (some ⟨w.heap.size + 1, 0, none⟩) 8 8) (hdr_9 N P H [] [])) := Lib.hid (hrow.own (n := 8) (Nat.le_refl _) (show 8 ≤ 8 by decide) (by simp [hdr_9, maxLen]))
  have hsub : IntKind.i64.wrap ((T : Int) - 40) = (N : Int) := by rw [IntKind.wrap_i64]; omega
  have u2 : IntKind.u8.wrap ((N : Int) / 256) = (N : Int) / 256 := by rw [IntKind.wrap_u8]; omega
  have u3 : IntKind.u8.wrap ((N : Int) % 256) = (N : Int) % 256 := by rw [IntKind.wrap_u8]; omega
  have u6 : IntKind.u8.wrap (P : Int) = (P : Int) := by rw [IntKind.wrap_u8]; omega
  have u7 : IntKind.u8.wrap (H : Int) = (H : Int) := by rw [IntKind.wrap_u8]; omega
  unfold frC_9
  obtain ⟨C, hC⟩ : ∃ C, (frL_9 f).toArray = C := ⟨_, rfl⟩
  rw [hC] at k1 k2 k5 HW1 ⊢
  clear hC hb1 hq1 hB1 hw1 hrow hr hok hput hf hT hs hd hs16 hd16
  go_enter Try.func27, Try.ntmps27
  go_wp2_with fail
  rw [HW1.out]
  clear k1 k2 k5
  go_loopw [4, 5] (fun vv i wr => ∃ (k : Nat), k ≤ 16 ∧ i = .int .i64 (k : Int) ∧ Own8 wr (w.heap.size + 1) vv (hdr_9 N P H [] [] ++ s.take k) ∧ Blk_9 wr 65 w.heap.size (frL_9 f) ∧ Below w.heap.size w wr) (fun _ i _ => 16 - (intOf i).toNat)
  case atStart => exact ⟨0, by omega, rfl, by rw [List.take_zero, List.append_nil]; exact HO.out, HQ.out, HBL.out⟩
  case round =>
    obtain ⟨k, hk, rfl, hown, hq, hB⟩ := hrel
    have hsz := hB.size
    by_cases hlt : k < 16
    · have hlt' : (k : Int) < 16 := by omega
      obtain ⟨x, hx⟩ : ∃ x, s[k]? = some x := ⟨_, List.getElem?_eq_getElem (by rw [HS16.out]; exact hlt)⟩
      have hc : wr.cell? ⟨w.heap.size, 7 + k, none⟩ = some (.int .u8 (x.toNat : Int)) := HSRC.out wr hq k _ (by rw [List.getElem?_map, hx]; rfl)
      have ht : (hdr_9 N P H [] [] ++ s.take k) ++ [x] = hdr_9 N P H [] [] ++ s.take (k + 1) := by
        obtain ⟨h1, h2⟩ := List.getElem?_eq_some_iff.1 hx
        rw [← List.take_append_getElem h1, h2, List.append_assoc]
      have hln : (hdr_9 N P H [] [] ++ s.take k).length ≤ 100 := by rw [List.length_append, List.length_take]; show 8 + _ ≤ 100; omega
      have HT := Lib.hid ht
      have HLN := Lib.hid hln
      have HQ := Lib.hid hq
      have hlr : w.heap.size + 1 ≤ wr.heap.size := Nat.succ_le_of_lt hq.lt
      clear ht hln hx hq
      go_wp2_with (at_builtin; refine wpList_append8 rfl _ _ rfl (w.heap.size + 1) _ (hdr_9 N P H [] [] ++ s.take k) (by rfl) (hown.alloc _) _ _ _ _ [x] (by rfl) (Rd.one wr x) (by have := HLN.out; omega) (by simp; omega) ?_; intro v' wz hown' hgrow _)
      have hb1 := (hB.alloc hsz (.cells #[.int .u8 (x.toNat : Int)] 5)).grown hgrow (by simp; omega) (fun g hg => by have := hown.lt g hg; omega)
      have hq1 := (HQ.out.alloc (.cells #[.int .u8 (x.toNat : Int)] 5)).grown hgrow (fun e => by have := hown.lt _ e; omega)
      rw [HT.out] at hown'
      go_wp2_with fail
      go_roundw
      case rel => exact ⟨k + 1, by omega, by go_num, hown', hq1, hb1⟩
      case measure => simp [intOf]; omega
    · have hlt' : ¬ (k : Int) < 16 := by omega
      rw [List.take_of_length_le (by rw [HS16.out]; omega)] at hown
      have HO2 := Lib.hid hown
      have HQ2 := Lib.hid hq
      have HB2 := Lib.hid hB
      clear hown hq hB hsz hlt
      go_wp2_with fail
      go_loopw [4, 6] (fun vv i wr => ∃ (k : Nat), k ≤ 16 ∧ i = .int .i64 (k : Int) ∧ Own8 wr (w.heap.size + 1) vv ((hdr_9 N P H [] [] ++ s) ++ d.take k) ∧ Blk_9 wr 65 w.heap.size (frL_9 f) ∧ Below w.heap.size w wr) (fun _ i _ => 16 - (intOf i).toNat)
      case atStart => exact ⟨0, by omega, rfl, by rw [List.take_zero, List.append_nil]; exact HO2.out, HQ2.out, HB2.out⟩
      case round =>
        clear HO2 HQ2 HB2
        obtain ⟨k, hk, rfl, hown, hq, hB⟩ := hrel
        have hsz := hB.size
        by_cases hlt : k < 16
        · have hlt' : (k : Int) < 16 := by omega
          obtain ⟨x, hx⟩ : ∃ x, d[k]? = some x := ⟨_, List.getElem?_eq_getElem (by rw [HD16.out]; exact hlt)⟩
          have hc : wr.cell? ⟨w.heap.size, 24 + k, none⟩ = some (.int .u8 (x.toNat : Int)) := HDST.out wr hq k _ (by rw [List.getElem?_map, hx]; rfl)
          have ht : ((hdr_9 N P H [] [] ++ s) ++ d.take k) ++ [x] = (hdr_9 N P H [] [] ++ s) ++ d.take (k + 1) := by
            obtain ⟨h1, h2⟩ := List.getElem?_eq_some_iff.1 hx
            rw [← List.take_append_getElem h1, h2, List.append_assoc]
          have hln : ((hdr_9 N P H [] [] ++ s) ++ d.take k).length ≤ 100 := by rw [List.length_append, List.length_append, List.length_take, HS16.out]; show 8 + 16 + _ ≤ 100; omega
          have HT := Lib.hid ht
          have HLN := Lib.hid hln
          have HQ := Lib.hid hq
          have hlr : w.heap.size + 1 ≤ wr.heap.size := Nat.succ_le_of_lt hq.lt
          clear ht hln hx hq
          go_wp2_with (at_builtin; refine wpList_append8 rfl _ _ rfl (w.heap.size + 1) _ ((hdr_9 N P H [] [] ++ s) ++ d.take k) (by rfl) (hown.alloc _) _ _ _ _ [x] (by rfl) (Rd.one wr x) (by have := HLN.out; omega) (by simp; omega) ?_; intro v' wz hown' hgrow _)
          have hb1 := (hB.alloc hsz (.cells #[.int .u8 (x.toNat : Int)] 5)).grown hgrow (by simp; omega) (fun g hg => by have := hown.lt g hg; omega)
          have hq1 := (HQ.out.alloc (.cells #[.int .u8 (x.toNat : Int)] 5)).grown hgrow (fun e => by have := hown.lt _ e; omega)
          rw [HT.out] at hown'
          go_wp2_with fail
          go_roundw
          case rel => exact ⟨k + 1, by omega, by go_num, hown', hq1, hb1⟩
          case measure => simp [intOf]; omega
        · have hlt' : ¬ (k : Int) < 16 := by omega
          rw [List.take_of_length_le (by rw [HD16.out]; omega)] at hown
          rw [show (hdr_9 N P H [] [] ++ s) ++ d = putF_9 f by rw [HPUT.out]; rfl] at hown
          have HO3 := Lib.hid (hown.base_le (Nat.le_succ _))
          have HB3 := Lib.hid hB
          clear hown hq hB hsz hlt
          go_wp2_with fail
          go_ret
          exact ⟨_, rfl, HO3.out, HB3.out⟩
end
end Go.Proofs.Ytomkfcpellcncaa
