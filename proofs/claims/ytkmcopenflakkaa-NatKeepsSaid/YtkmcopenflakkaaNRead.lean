/-
  Plain mathematics of stage 12: how a frame that was rewritten is read. No program is walked here.
-/
import Derived.Test.YtkmcopenflakkaaNFine
namespace Go.Proofs.Ytkmcopenflakkaa
open Go.RowKit Go.Lib

/-- A fine frame, by its parts. -/
structure FineF (xs : List UInt8) (six : Bool) (n : Nt) (p : Nat) (u : Bool) : Prop where
  lk : (rdOf xs).2 = 0
  at_ : atK xs = p
  ty : (rdOf xs).1.ty = (if six = true then 34525 else 2048)
  nt : n = (if six = true then nt6 (xs.drop p) else nt4 (xs.drop p))
  e : n.e = 0
  fr : n.frag = false
  pr : n.proto = prN u
  fl : faultB u (segN (xs.drop p) n) = 0
theorem behind_zero {p : Nat} {rest : List UInt8} {n : Nt} (h : (behind p rest n).kind = 0) : n.e = 0 ∧ n.frag = false ∧ (n.proto = 6 ∨ n.proto = 17) ∧ faultP (n.proto : Nat) (segN rest n) = 0 := by
  unfold behind at h
  split at h
  · cases h
  · rename_i h1
    split at h
    · cases h
    · rename_i h2
      split at h
      · cases h
      · rename_i h3
        split at h
        · cases h
        · rename_i h4
          refine ⟨by omega, by cases hq : n.frag with | false => rfl | true => exact absurd hq h2, by omega, by omega⟩
theorem fine_form {xs : List UInt8} (h : (readK xs).kind = 0) : ∃ six n p u, FineF xs six n p u := by
  by_cases h0 : (rdOf xs).2 = 0
  · have core : ∀ (six : Bool) (n : Nt), (rdOf xs).1.ty = (if six = true then 34525 else 2048) → n = (if six = true then nt6 (xs.drop (atK xs)) else nt4 (xs.drop (atK xs))) → (behind (atK xs) (xs.drop (atK xs)) n).kind = 0 → ∃ six n p u, FineF xs six n p u := by
      intro six n ht hn hk
      obtain ⟨e1, e2, e3, e4⟩ := behind_zero hk
      rcases e3 with e3 | e3
      · exact ⟨six, n, _, false, h0, rfl, ht, hn, e1, e2, e3, by rw [← faultP_pr]; rw [e3] at e4; exact e4⟩
      · exact ⟨six, n, _, true, h0, rfl, ht, hn, e1, e2, e3, by rw [← faultP_pr]; rw [e3] at e4; exact e4⟩
    by_cases h4 : (rdOf xs).1.ty = 2048
    · rw [readK_4 h0 h4] at h
      exact core false _ h4 rfl h
    · by_cases h6 : (rdOf xs).1.ty = 34525
      · rw [readK_6 h0 h6] at h
        exact core true _ h6 rfl h
      · have hk : readK xs = kindK 2 := by unfold readK; rw [if_neg (by omega), if_neg h4, if_neg h6]
        rw [hk] at h
        cases h
  · have hk : readK xs = kindK 1 := if_pos h0
    rw [hk] at h
    cases h
theorem rdP_nums {u : Bool} {sg : List UInt8} (h : faultB u sg = 0) : (rdP (prN u : Nat) sg).s = wat sg 0 ∧ (rdP (prN u : Nat) sg).d = wat sg 2 ∧ (rdP (prN u : Nat) sg).f = flN u sg := by
  cases u
  · have e : rdP (prN false : Nat) sg = poT sg := rdP_T h
    rw [e]
    exact ⟨rfl, rfl, rfl⟩
  · have e : rdP (prN true : Nat) sg = poU sg := rdP_U h
    rw [e]
    exact ⟨rfl, rfl, rfl⟩
section
variable {xs : List UInt8} {six : Bool} {n : Nt} {p : Nat} {u : Bool}
theorem FineF.read (h : FineF xs six n p u) : readK xs = ⟨0, ⟨n.s, n.d, (prN u : Nat), (wat (segN (xs.drop p) n) 0 : Nat), (wat (segN (xs.drop p) n) 2 : Nat)⟩, (flN u (segN (xs.drop p) n) : Nat), (p : Nat), ((p + n.head : Nat) : Int), ((p + n.total : Nat) : Int)⟩ := by
  have hp := h.pr
  have hnp : ¬ (n.proto ≠ 6 ∧ n.proto ≠ 17) := by rw [hp]; cases u <;> decide
  obtain ⟨r1, r2, r3⟩ := rdP_nums h.fl
  have hb : behind p (xs.drop p) n = ⟨0, ⟨n.s, n.d, (prN u : Nat), (wat (segN (xs.drop p) n) 0 : Nat), (wat (segN (xs.drop p) n) 2 : Nat)⟩, (flN u (segN (xs.drop p) n) : Nat), (p : Nat), ((p + n.head : Nat) : Int), ((p + n.total : Nat) : Int)⟩ := by
    rw [behind_0 h.e h.fr hnp (by rw [hp, faultP_pr]; exact h.fl), hp, r1, r2, r3]
  have ha := h.at_
  have hn := h.nt
  cases hs : six
  · have ht := h.ty
    rw [hs] at ht hn
    rw [readK_4 h.lk ht, ha, ← hb, hn]
    rfl
  · have ht := h.ty
    rw [hs] at ht hn
    rw [readK_6 h.lk ht, ha, ← hb, hn]
    rfl
theorem FineF.v4 (h : FineF xs false n p u) : faultN (xs.drop p) = 0 ∧ n = ⟨0, ihl (xs.drop p), wat (xs.drop p) 2, decide (wat (xs.drop p) 6 % 16384 ≠ 0), batN (xs.drop p) 9, adOf (xs.drop p) 12, adOf (xs.drop p) 16⟩ := by
  have hn : n = nt4 (xs.drop p) := h.nt
  have he := h.e
  rw [hn, nt4_e] at he
  refine ⟨he, ?_⟩
  rw [hn]
  unfold nt4
  rw [if_pos he]
theorem FineF.v6 (h : FineF xs true n p u) : rdN (xs.drop p) = 0 ∧ n = ⟨0, (wkOf (xs.drop p)).head, totN_9 (xs.drop p), (wkOf (xs.drop p)).frag, (wkOf (xs.drop p)).proto, adOf_9 (xs.drop p) 8, adOf_9 (xs.drop p) 24⟩ := by
  have hn : n = nt6 (xs.drop p) := h.nt
  have he := h.e
  rw [hn, nt6_e] at he
  refine ⟨he, ?_⟩
  rw [hn]
  unfold nt6
  rw [if_pos he]
theorem six_bad {xs : List UInt8} (hr : rdN xs = 0) : faultN_9 xs = 0 := by
  by_cases hf : faultN_9 xs = 0
  · exact hf
  · rw [rdN_bad hf] at hr; exact absurd hr hf
theorem wk_fit {xs : List UInt8} (hr : rdN xs = 0) : (wkOf xs).Fit (totN_9 xs) := by
  have hf := six_bad hr
  rw [rdN_walk hf] at hr
  exact walkN_fit xs (totN_9 xs) _ (wk0 xs) (wk0_fit (by unfold totN_9; omega)) hr
/-- Where the parts stand. -/
structure Bnd (xs : List UInt8) (six : Bool) (n : Nt) (p : Nat) (u : Bool) : Prop where
  p0 : 14 ≤ p
  h0 : (if six = true then 40 else 20) ≤ n.head
  h1 : n.head ≤ n.total
  h2 : p + n.total ≤ xs.length
  k : n.head + plc u + 2 ≤ n.total
  k8 : n.head + 8 ≤ n.total
  sl : (segN (xs.drop p) n).length = n.total - n.head
  s : n.s.b.length = 16
  d : n.d.b.length = 16
  s6 : n.s.six = six
  d6 : n.d.six = six
theorem FineF.bnd (h : FineF xs six n p u) : Bnd xs six n p u := by
  obtain ⟨_, a2, a3, _, _⟩ := atK_ok h.lk
  rw [h.at_] at a2 a3
  have hfit : n.Fits (xs.drop p).length := by
    rw [h.nt]
    split
    · exact nt6_fits _
    · exact nt4_fits _
  have h2 := hfit.h2
  have h1 := hfit.h1
  rw [List.length_drop] at h2
  have hsl : (segN (xs.drop p) n).length = n.total - n.head := by
    unfold segN
    rw [List.length_take, List.length_drop, List.length_drop]
    omega
  obtain ⟨t1, t2, t3⟩ := tot_ok h.fl
  rw [hsl] at t3
  have hh : (if six = true then 40 else 20) ≤ n.head ∧ n.s.six = six ∧ n.d.six = six := by
    cases hs : six
    · rw [hs] at h
      obtain ⟨f, e⟩ := h.v4
      have := fault_parts f
      rw [e]
      exact ⟨by show 20 ≤ ihl _; omega, rfl, rfl⟩
    · rw [hs] at h
      obtain ⟨f, e⟩ := h.v6
      have := (wk_fit f).h0
      rw [e]
      exact ⟨this, rfl, rfl⟩
  exact ⟨a3, hh.1, h1, by omega, by omega, by omega, hsl, hfit.s, hfit.d, hh.2.1, hh.2.2⟩
/-- The places of a fine frame. -/
def plF (six : Bool) (n : Nt) (p : Nat) (u dst : Bool) : Pl :=
  ⟨p + (if six = true then 8 else 12) + (if dst = true then szA six else 0), p + n.head + poD dst, if six = true then 0 else p + 10, p + n.head + plc u, u⟩
theorem Bnd.ok (h : Bnd xs six n p u) (dst : Bool) : (plF six n p u dst).Ok (szA six) (p + n.total) := by
  have h0 := h.h0
  have k := h.k
  obtain ⟨p1, p2⟩ := plc_po u dst
  unfold plF
  cases six
  · rw [if_neg (by decide)] at h0
    refine ⟨.inr ?_, ?_, ?_, ?_⟩
    · show p + 10 + 2 ≤ p + 12 + _; omega
    · show p + 12 + (if dst = true then 4 else 0) + 4 ≤ p + n.head + poD dst
      split <;> omega
    · show p + n.head + poD dst + 2 ≤ p + n.head + plc u; omega
    · show p + n.head + plc u + 2 ≤ p + n.total; omega
  · rw [if_pos rfl] at h0
    refine ⟨.inl rfl, ?_, ?_, ?_⟩
    · show p + 8 + (if dst = true then 16 else 0) + 16 ≤ p + n.head + poD dst
      split <;> omega
    · show p + n.head + poD dst + 2 ≤ p + n.head + plc u; omega
    · show p + n.head + plc u + 2 ≤ p + n.total; omega
end
def plK (k : Pk) (dst : Bool) : Pl :=
  ⟨k.net.toNat + (if k.t.s.six = true then 8 else 12) + (if dst = true then szA k.t.s.six else 0), k.sg.toNat + poD dst, if k.t.s.six = true then 0 else k.net.toNat + 10, k.sg.toNat + plc (udpT k.t), udpT k.t⟩
theorem udp_pr (u : Bool) (s d : Ad) (a b : Int) : udpT ⟨s, d, (prN u : Nat), a, b⟩ = u := by cases u <;> rfl
theorem FineF.plK {xs : List UInt8} {six : Bool} {n : Nt} {p : Nat} {u : Bool} (h : FineF xs six n p u) (dst : Bool) : plK (readK xs) dst = plF six n p u dst := by
  have h6 := h.bnd.s6
  rw [h.read]
  unfold Go.Proofs.Ytkmcopenflakkaa.plK plF
  simp only [h6, udp_pr, Int.toNat_natCast]
/-- A frame rewritten: what is up to the end of its IP packet. -/
def natL (xs : List UInt8) (a : Ad) (m : Int) (dst : Bool) : List UInt8 := rewL (plK (readK xs) dst) (xs.take (readK xs).en.toNat) (newB (readK xs).t.s.six a) m.toNat
def mayN (k : Pk) (a : Ad) (m : Int) : Bool := decide (k.kind = 0) && (ofB k.t.s.six a && decide (0 ≤ m ∧ m ≤ 65535))
theorem mayN_yes {k : Pk} {a : Ad} {m : Int} (h : mayN k a m = true) : k.kind = 0 ∧ ofB k.t.s.six a = true ∧ 0 ≤ m ∧ m ≤ 65535 := by
  unfold mayN at h
  simp only [Bool.and_eq_true, decide_eq_true_eq] at h
  exact ⟨h.1, h.2.1, h.2.2.1, h.2.2.2⟩
/-- The header with an address and its checksum laid anew. -/
theorem rewL_head {q : Pl} {r new : List UInt8} {m i : Nat} (h0 : 0 < q.hd) (h2 : i ≤ q.pt) (h3 : i ≤ q.ck) : (rewL q r new m).take i = setL (setL (r.take i) q.hd (be2 (changedOf (wat r q.hd) ((r.drop q.ad).take new.length) new))) q.ad new := by
  unfold rewL headL
  rw [if_pos h0, setL_take_le h2, setL_take, setL_take_le h3, setL_take]
/-- The segment with a port and its checksum laid anew. -/
theorem rewL_seg {q : Pl} {r new : List UInt8} {m i l : Nat} (h0 : q.hd = 0 ∨ q.hd + 2 ≤ i) (h1 : q.ad + new.length ≤ i) (h2 : i ≤ q.pt) (h3 : i ≤ q.ck) :
    ((rewL q r new m).drop i).take l = setL (setL ((r.drop i).take l) (q.ck - i) (be2 (numW q.u (wat r q.ck) ((r.drop q.ad).take new.length) new ((r.drop q.pt).take 2) (be2 m)))) (q.pt - i) (be2 m) := by
  unfold rewL
  rw [setL_drop h2, setL_drop_ge h1, setL_drop h3, setL_take, setL_take]
  congr 3
  unfold headL
  split
  · rw [setL_drop_ge (by rw [be2_len]; omega)]
  · rfl
theorem wsum_first {xs : List UInt8} (h : batN xs 0 ≠ 0) : 0 < wsum false xs := by
  cases xs with
  | nil => exact absurd rfl h
  | cons x t =>
    have hx : batN (x :: t) 0 = x.toNat := rfl
    rw [hx] at h
    show 0 < 256 * x.toNat + _
    omega
/-- A header's sum stays right. -/
theorem head_right {q : Pl} {r new : List UInt8} {m i : Nat} (h0 : 0 < q.hd) (h : q.hd + 2 ≤ q.ad) (h1 : q.ad + new.length ≤ i) (hi : i ≤ r.length) (h2 : i ≤ q.pt) (h3 : i ≤ q.ck) (e1 : q.hd % 2 = 0) (e2 : q.ad % 2 = 0) (e3 : new.length % 2 = 0) (hb : batN r 0 ≠ 0) :
    ckOf ((rewL q r new m).take i) = ckOf (r.take i) := by
  have hw := wat_lt r q.hd
  have hol : ((r.drop q.ad).take new.length).length = new.length := part_len (by omega)
  have hle := ch_le (c := wat r q.hd) (old := (r.drop q.ad).take new.length) (new := new) (by omega) hol.symm
  have hmod := ch_mod (c := wat r q.hd) (old := (r.drop q.ad).take new.length) (new := new) hol.symm (by omega)
  have hp1 : 0 < wsum false (r.take i) := wsum_first (by rw [batN_take r (by omega)]; exact hb)
  have hp2 : 0 < wsum false ((rewL q r new m).take i) := wsum_first (by rw [batN_take _ (by omega), rewL_bne (by omega) (by omega) (by omega) (by omega)]; exact hb)
  rw [rewL_head h0 h2 h3] at hp2 ⊢
  generalize changedOf (wat r q.hd) ((r.drop q.ad).take new.length) new = c at *
  have hl : (r.take i).length = i := by rw [List.length_take]; omega
  have s1 := wsum_setL (xs := setL (r.take i) q.hd (be2 c)) (k := q.ad) (ys := new) (by rw [setL_len]; omega) e2 e3
  have s2 := wsum_setL (xs := r.take i) (k := q.hd) (ys := be2 c) (by rw [be2_len]; omega) e1 (by rw [be2_len])
  rw [setL_part (by rw [be2_len]; omega)] at s1
  have o1 : ((r.take i).drop q.ad).take new.length = (r.drop q.ad).take new.length := by rw [List.drop_take, List.take_take, Nat.min_eq_left (by omega)]
  rw [o1] at s1
  rw [be2_len, wsum_two _ _ (by omega), wat_take (by omega), wsum_be2 (by omega)] at s2
  unfold ckOf rsumOf
  rw [nrm_same hp2 hp1 (by omega)]
end Go.Proofs.Ytkmcopenflakkaa
