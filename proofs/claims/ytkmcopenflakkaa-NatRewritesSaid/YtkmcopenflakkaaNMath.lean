/-
  Plain mathematics of stage 12: a frame rewritten, and how it is read then. No program is walked here.
-/
import Derived.Test.YtkmcopenflakkaaNSet
import Derived.Test.YtkmcopenflakkaaKForm
import Derived.Test.YtkmcopenflakkaaKCut
namespace Go.Proofs.Ytkmcopenflakkaa
open Go.RowKit Go.Lib

/-- Where the parts stand that are rewritten: address, port, the header's checksum (0: there is none), the segment's. -/
structure Pl where
  ad : Nat
  pt : Nat
  hd : Nat
  ck : Nat
  u : Bool
/-- They stand apart, in this order, addresses of so many bytes. -/
structure Pl.Ok (q : Pl) (sz len : Nat) : Prop where
  h : q.hd = 0 ∨ q.hd + 2 ≤ q.ad
  a : q.ad + sz ≤ q.pt
  p : q.pt + 2 ≤ q.ck
  k : q.ck + 2 ≤ len
def headL (q : Pl) (xs old new : List UInt8) : List UInt8 := if 0 < q.hd then setL xs q.hd (be2 (changedOf (wat xs q.hd) old new)) else xs
def rewL (q : Pl) (xs new : List UInt8) (m : Nat) : List UInt8 :=
  setL (setL (setL (headL q xs ((xs.drop q.ad).take new.length) new) q.ck (be2 (numW q.u (wat xs q.ck) ((xs.drop q.ad).take new.length) new ((xs.drop q.pt).take 2) (be2 m)))) q.ad new) q.pt (be2 m)
section
variable {q : Pl} {xs old new : List UInt8} {m : Nat}
theorem headL_len : (headL q xs old new).length = xs.length := by
  unfold headL
  split
  · exact setL_len _ _ _
  · rfl
theorem rewL_len : (rewL q xs new m).length = xs.length := by
  unfold rewL
  rw [setL_len, setL_len, setL_len, headL_len]
/-- A byte that is none of those rewritten. -/
theorem headL_bne {i : Nat} (h : q.hd = 0 ∨ i < q.hd ∨ q.hd + 2 ≤ i) : batN (headL q xs old new) i = batN xs i := by
  unfold headL
  split
  · exact setL_bne (by rw [be2_len]; omega)
  · rfl
theorem rewL_bne {i : Nat} (h : q.hd = 0 ∨ i < q.hd ∨ q.hd + 2 ≤ i) (h1 : i < q.ad ∨ q.ad + new.length ≤ i) (h2 : i < q.pt ∨ q.pt + 2 ≤ i) (h3 : i < q.ck ∨ q.ck + 2 ≤ i) : batN (rewL q xs new m) i = batN xs i := by
  unfold rewL
  rw [setL_bne (by rw [be2_len]; omega), setL_bne (by omega), setL_bne (by rw [be2_len]; omega), headL_bne h]
theorem rewL_wne {i : Nat} (h : q.hd = 0 ∨ i + 1 < q.hd ∨ q.hd + 2 ≤ i) (h1 : i + 1 < q.ad ∨ q.ad + new.length ≤ i) (h2 : i + 1 < q.pt ∨ q.pt + 2 ≤ i) (h3 : i + 1 < q.ck ∨ q.ck + 2 ≤ i) : wat (rewL q xs new m) i = wat xs i := by
  unfold wat
  rw [rewL_bne (by omega) (by omega) (by omega) (by omega), rewL_bne (by omega) (by omega) (by omega) (by omega)]
/-- What is rewritten, in the middle. -/
theorem rewL_part {p n : Nat} (h : q.hd = 0 ∨ q.hd + 2 ≤ p ∨ p + n ≤ q.hd) (h1 : q.ad + new.length ≤ p ∨ p + n ≤ q.ad) (h2 : q.pt + 2 ≤ p ∨ p + n ≤ q.pt) (h3 : q.ck + 2 ≤ p ∨ p + n ≤ q.ck) : ((rewL q xs new m).drop p).take n = (xs.drop p).take n := by
  unfold rewL
  rw [setL_part (by rw [be2_len]; omega), setL_part (by omega), setL_part (by rw [be2_len]; omega)]
  unfold headL
  split
  · rw [setL_part (by rw [be2_len]; omega)]
  · rfl
theorem rewL_ad (hq : q.Ok new.length xs.length) : ((rewL q xs new m).drop q.ad).take new.length = new := by
  have h1 := hq.a
  have h2 := hq.p
  have h3 := hq.k
  unfold rewL
  rw [setL_part (by omega), setL_got (by rw [setL_len, headL_len]; omega)]
theorem rewL_pt (hq : q.Ok new.length xs.length) : ((rewL q xs new m).drop q.pt).take 2 = be2 m := by
  have h1 := hq.a
  have h2 := hq.p
  have h3 := hq.k
  unfold rewL
  exact setL_got (ys := be2 m) (by rw [be2_len, setL_len, setL_len, headL_len]; omega)
theorem rewL_ck (hq : q.Ok new.length xs.length) (hc : numW q.u (wat xs q.ck) ((xs.drop q.ad).take new.length) new ((xs.drop q.pt).take 2) (be2 m) < 65536) : wat (rewL q xs new m) q.ck = numW q.u (wat xs q.ck) ((xs.drop q.ad).take new.length) new ((xs.drop q.pt).take 2) (be2 m) := by
  have h1 := hq.a
  have h2 := hq.p
  have h3 := hq.k
  unfold rewL
  rw [setL_wne (by rw [be2_len]; omega), setL_wne (by omega), setL_wat (by rw [headL_len]; omega) hc]
theorem rewL_hd (hq : q.Ok new.length xs.length) (h0 : 0 < q.hd) (hc : changedOf (wat xs q.hd) ((xs.drop q.ad).take new.length) new < 65536) : wat (rewL q xs new m) q.hd = changedOf (wat xs q.hd) ((xs.drop q.ad).take new.length) new := by
  have h := hq.h
  have h1 := hq.a
  have h2 := hq.p
  have h3 := hq.k
  unfold rewL
  rw [setL_wne (by omega), setL_wne (by omega), setL_wne (by omega)]
  unfold headL
  rw [if_pos h0, setL_wat (by omega) hc]
end
theorem part_len {xs : List UInt8} {p n : Nat} (h : p + n ≤ xs.length) : ((xs.drop p).take n).length = n := by rw [List.length_take, List.length_drop]; omega
/-- Three parts laid anew, and once more. -/
theorem setL_six (ys : List UInt8) {ad pt ck : Nat} {a b c d m n : List UInt8} (h1 : b.length = a.length) (h2 : d.length = c.length) (h3 : n.length = m.length) (k1 : ad + a.length ≤ pt) (k2 : pt + m.length ≤ ck) :
    setL (setL (setL (setL (setL (setL ys ck c) ad a) pt m) ck d) ad b) pt n = setL (setL (setL ys ck d) ad b) pt n := by
  rw [setL_comm _ (k := pt) (j := ck) k2, setL_comm _ (k := ad) (j := ck) (by omega), setL_setL h2, ← setL_comm _ (k := ad) (j := pt) (ys := b) (by omega), setL_setL h1, setL_setL h3]
/-- Rewritten to another place, and from there on: as if at once. -/
theorem rewL_twice {q : Pl} {xs a b : List UInt8} {m n : Nat} (hl : b.length = a.length) (hq : q.Ok a.length xs.length) (hh : 0 < q.hd → wat xs q.hd < 65535) (hc : (q.u = true ∧ wat xs q.ck = 0) ∨ InR q.u (wat xs q.ck)) :
    rewL q (rewL q xs a m) b n = rewL q xs b n := by
  have h := hq.h
  have h1 := hq.a
  have h2 := hq.p
  have h3 := hq.k
  have hqy : q.Ok a.length (rewL q xs a m).length := by rw [rewL_len]; exact hq
  have hol : ((xs.drop q.ad).take a.length).length = a.length := part_len (by omega)
  have hpl : ((xs.drop q.pt).take 2).length = 2 := part_len (by omega)
  have ea : ((rewL q xs a m).drop q.ad).take b.length = a := by rw [hl]; exact rewL_ad hq
  have ep : ((rewL q xs a m).drop q.pt).take 2 = be2 m := rewL_pt hq
  have hw := wat_lt xs q.ck
  have hle : numW q.u (wat xs q.ck) ((xs.drop q.ad).take a.length) a ((xs.drop q.pt).take 2) (be2 m) ≤ 65535 := numW_le hol.symm (by rw [hpl, be2_len]) (by omega)
  have ec := rewL_ck (m := m) hq (by omega)
  -- the segment's checksum
  have e2 : numW q.u (wat (rewL q xs a m) q.ck) a b (be2 m) (be2 n) = numW q.u (wat xs q.ck) ((xs.drop q.ad).take a.length) b ((xs.drop q.pt).take 2) (be2 n) := by
    rw [ec]
    rcases hc with hc | hc
    · rw [numW_idle hc, numW_idle ⟨hc.1, rfl⟩, numW_idle hc]
    · have i1 : InR q.u (numW q.u (wat xs q.ck) ((xs.drop q.ad).take a.length) a ((xs.drop q.pt).take 2) (be2 m)) := numW_in hol.symm (by rw [hpl, be2_len]) hc
      have nz : ∀ {x}, InR q.u x → ¬ (q.u = true ∧ x = 0) := fun hx hh => by have := hx.2.1 hh.1; omega
      have i2 := numW_in (old := a) (new := b) (oldp := be2 m) (newp := be2 n) hl rfl i1
      have i3 := numW_in (old := (xs.drop q.ad).take a.length) (new := b) (oldp := (xs.drop q.pt).take 2) (newp := be2 n) (by rw [hl, hol]) (by rw [hpl, be2_len]) hc
      refine inR_uniq i2 i3 ?_
      have m1 := numW_mod (old := (xs.drop q.ad).take a.length) (new := a) (oldp := (xs.drop q.pt).take 2) (newp := be2 m) hol.symm (by rw [hpl, be2_len]) hc.1 (nz hc)
      have m2 := numW_mod (old := a) (new := b) (oldp := be2 m) (newp := be2 n) hl rfl i1.1 (nz i1)
      have m3 := numW_mod (old := (xs.drop q.ad).take a.length) (new := b) (oldp := (xs.drop q.pt).take 2) (newp := be2 n) (by rw [hl, hol]) (by rw [hpl, be2_len]) hc.1 (nz hc)
      omega
  have eh : headL q (rewL q xs a m) a b = setL (setL (setL (headL q xs ((xs.drop q.ad).take a.length) b) q.ck (be2 (numW q.u (wat xs q.ck) ((xs.drop q.ad).take a.length) a ((xs.drop q.pt).take 2) (be2 m)))) q.ad a) q.pt (be2 m) := by
    by_cases h0 : 0 < q.hd
    · have hw2 := hh h0
      have hle2 : changedOf (wat xs q.hd) ((xs.drop q.ad).take a.length) a ≤ 65535 := ch_le (by omega) hol.symm
      have e3 : changedOf (wat (rewL q xs a m) q.hd) a b = changedOf (wat xs q.hd) ((xs.drop q.ad).take a.length) b := by
        rw [rewL_hd hq h0 (by omega)]
        have l1 := ch_lt (c := wat xs q.hd) (old := (xs.drop q.ad).take a.length) (new := a) hol.symm hw2
        have m1 := ch_mod (c := wat xs q.hd) (old := (xs.drop q.ad).take a.length) (new := a) hol.symm (by omega)
        have l2 := ch_lt (c := changedOf (wat xs q.hd) ((xs.drop q.ad).take a.length) a) (old := a) (new := b) hl l1
        have m2 := ch_mod (c := changedOf (wat xs q.hd) ((xs.drop q.ad).take a.length) a) (old := a) (new := b) hl (by omega)
        have l3 := ch_lt (c := wat xs q.hd) (old := (xs.drop q.ad).take a.length) (new := b) (by rw [hl, hol]) hw2
        have m3 := ch_mod (c := wat xs q.hd) (old := (xs.drop q.ad).take a.length) (new := b) (by rw [hl, hol]) (by omega)
        omega
      unfold headL
      rw [if_pos h0, if_pos h0, e3]
      unfold rewL headL
      rw [if_pos h0]
      rw [← setL_comm _ (k := q.hd) (j := q.pt) (by rw [be2_len]; omega), ← setL_comm _ (k := q.hd) (j := q.ad) (by rw [be2_len]; omega), ← setL_comm _ (k := q.hd) (j := q.ck) (by rw [be2_len]; omega), setL_setL (by rw [be2_len, be2_len])]
    · unfold headL
      rw [if_neg h0, if_neg h0]
      unfold rewL headL
      rw [if_neg h0]
  show setL (setL (setL (headL q (rewL q xs a m) (((rewL q xs a m).drop q.ad).take b.length) b) q.ck (be2 (numW q.u (wat (rewL q xs a m) q.ck) (((rewL q xs a m).drop q.ad).take b.length) b (((rewL q xs a m).drop q.pt).take 2) (be2 n)))) q.ad b) q.pt (be2 n) = setL (setL (setL (headL q xs ((xs.drop q.ad).take b.length) b) q.ck (be2 (numW q.u (wat xs q.ck) ((xs.drop q.ad).take b.length) b ((xs.drop q.pt).take 2) (be2 n)))) q.ad b) q.pt (be2 n)
  rw [ea, ep, e2, eh, hl]
  exact setL_six _ hl (by rw [be2_len, be2_len]) (by rw [be2_len, be2_len]) (by omega) (by rw [be2_len]; omega)
theorem setL_two (xs : List UInt8) (p : Nat) (h : p + 2 ≤ xs.length) : setL xs p (be2 (wat xs p)) = xs := by
  rw [two_be2 xs p h]
  exact setL_self xs p 2 h
/-- Rewritten to what stands there already: as it was. -/
theorem rewL_same {q : Pl} {xs : List UInt8} {sz : Nat} (hq : q.Ok sz xs.length) (hh : 0 < q.hd → wat xs q.hd < 65535) (hc : (q.u = true ∧ wat xs q.ck = 0) ∨ InR q.u (wat xs q.ck)) :
    rewL q xs ((xs.drop q.ad).take sz) (wat xs q.pt) = xs := by
  have h := hq.h
  have h1 := hq.a
  have h2 := hq.p
  have h3 := hq.k
  have hol : ((xs.drop q.ad).take sz).length = sz := part_len (by omega)
  have hpl : ((xs.drop q.pt).take 2).length = 2 := part_len (by omega)
  have hw := wat_lt xs q.ck
  have e2 : numW q.u (wat xs q.ck) ((xs.drop q.ad).take sz) ((xs.drop q.ad).take sz) ((xs.drop q.pt).take 2) ((xs.drop q.pt).take 2) = wat xs q.ck := by
    rcases hc with hc | hc
    · rw [numW_idle hc, hc.2]
    · have i1 := numW_in (old := (xs.drop q.ad).take sz) (new := (xs.drop q.ad).take sz) (oldp := (xs.drop q.pt).take 2) (newp := (xs.drop q.pt).take 2) rfl rfl hc
      refine inR_uniq i1 hc ?_
      have m1 := numW_mod (old := (xs.drop q.ad).take sz) (new := (xs.drop q.ad).take sz) (oldp := (xs.drop q.pt).take 2) (newp := (xs.drop q.pt).take 2) rfl rfl hc.1 (fun hx => by have := hc.2.1 hx.1; omega)
      omega
  have eh : headL q xs ((xs.drop q.ad).take sz) ((xs.drop q.ad).take sz) = xs := by
    unfold headL
    split
    · rename_i h0
      have hw2 := hh h0
      have l1 := ch_lt (c := wat xs q.hd) (old := (xs.drop q.ad).take sz) (new := (xs.drop q.ad).take sz) rfl hw2
      have m1 := ch_mod (c := wat xs q.hd) (old := (xs.drop q.ad).take sz) (new := (xs.drop q.ad).take sz) rfl (by omega)
      rw [show changedOf (wat xs q.hd) ((xs.drop q.ad).take sz) ((xs.drop q.ad).take sz) = wat xs q.hd by omega]
      exact setL_two xs _ (by omega)
    · rfl
  unfold rewL
  rw [hol, two_be2 xs q.pt (by omega), e2, eh, setL_two xs _ (by omega), setL_self xs _ _ (by omega), setL_self xs _ _ (by omega)]
/-- The places moved by p. -/
def Pl.less (q : Pl) (p : Nat) : Pl := ⟨q.ad - p, q.pt - p, q.hd - p, q.ck - p, q.u⟩
theorem wat_drop (xs : List UInt8) {p i : Nat} (h : p ≤ i) : wat (xs.drop p) (i - p) = wat xs i := by
  unfold wat batN
  rw [List.getD_eq_getElem?_getD, List.getD_eq_getElem?_getD, List.getElem?_drop, List.getElem?_drop, List.getD_eq_getElem?_getD, List.getD_eq_getElem?_getD, show p + (i - p) = i by omega, show p + (i - p + 1) = i + 1 by omega]
theorem rewL_drop {q : Pl} {xs new : List UInt8} {m p : Nat} (h : q.hd = 0 ∨ p < q.hd) (h1 : p ≤ q.ad) (h2 : p ≤ q.pt) (h3 : p ≤ q.ck) : (rewL q xs new m).drop p = rewL (q.less p) (xs.drop p) new m := by
  unfold rewL
  rw [setL_drop h2, setL_drop h1, setL_drop h3]
  show setL (setL (setL _ (q.ck - p) _) (q.ad - p) new) (q.pt - p) (be2 m) = setL (setL (setL (headL (q.less p) (xs.drop p) (((xs.drop p).drop (q.ad - p)).take new.length) new) (q.ck - p) (be2 (numW q.u (wat (xs.drop p) (q.ck - p)) (((xs.drop p).drop (q.ad - p)).take new.length) new (((xs.drop p).drop (q.pt - p)).take 2) (be2 m)))) (q.ad - p) new) (q.pt - p) (be2 m)
  rw [List.drop_drop, List.drop_drop, show p + (q.ad - p) = q.ad by omega, show p + (q.pt - p) = q.pt by omega, wat_drop xs h3]
  congr 3
  unfold headL
  by_cases h0 : 0 < q.hd
  · rw [if_pos h0, if_pos (show 0 < (q.less p).hd by show 0 < q.hd - p; omega), setL_drop (by omega)]
    show _ = setL (xs.drop p) (q.hd - p) (be2 (changedOf (wat (xs.drop p) (q.hd - p)) _ new))
    rw [wat_drop xs (by omega)]
  · rw [if_neg h0, if_neg (show ¬ 0 < (q.less p).hd by show ¬ 0 < q.hd - p; omega)]
end Go.Proofs.Ytkmcopenflakkaa
