/-
  Plain mathematics of stage 13: a frame's IP packet, a frame wrapped, a frame unwrapped. No program is walked here.
-/
import Derived.Test.YtomkfcpellcncaaKCut
import Derived.Test.YtomkfcpellcncaaKForm
namespace Go.Proofs.Ytomkfcpellcncaa
open Go.RowKit Go.Lib

/-- What an IP header of a Type tells. -/
def ntK (ty : Int) (ys : List UInt8) : Nt := if ty = 2048 then nt4 ys else if ty = 34525 then nt6 ys else ntNo 3
theorem ntK_4 (ys : List UInt8) : ntK 2048 ys = nt4 ys := if_pos rfl
theorem ntK_6 (ys : List UInt8) : ntK 34525 ys = nt6 ys := rfl
theorem ntK_x {ty : Int} (h4 : ty ≠ 2048) (h6 : ty ≠ 34525) (ys : List UInt8) : ntK ty ys = ntNo 3 := by unfold ntK; rw [if_neg h4, if_neg h6]
theorem ntK_fits (ty : Int) (ys : List UInt8) : (ntK ty ys).Fits ys.length := by
  unfold ntK
  split
  · exact nt4_fits ys
  · split
    · exact nt6_fits ys
    · exact ntNo_fits _ _
theorem nt4_no {ys : List UInt8} (h : (nt4 ys).e ≠ 0) : nt4 ys = ntNo (nt4 ys).e := by
  rw [nt4_e] at h ⊢
  unfold nt4
  rw [if_neg h]
theorem nt6_no {ys : List UInt8} (h : (nt6 ys).e ≠ 0) : nt6 ys = ntNo (nt6 ys).e := by
  rw [nt6_e] at h ⊢
  unfold nt6
  rw [if_neg h]
theorem ntK_no {ty : Int} {ys : List UInt8} (h : (ntK ty ys).e ≠ 0) : ntK ty ys = ntNo (ntK ty ys).e := by
  unfold ntK at h ⊢
  split
  · rename_i e; rw [if_pos e] at h; exact nt4_no h
  · rename_i e
    rw [if_neg e] at h
    split
    · rename_i e6; rw [if_pos e6] at h; exact nt6_no h
    · rfl
theorem ntK_ty {ty : Int} {ys : List UInt8} (h : (ntK ty ys).e = 0) : ty = 2048 ∨ ty = 34525 := by
  unfold ntK at h
  split at h
  · rename_i e; exact .inl e
  · split at h
    · rename_i e; exact .inr e
    · cases h
/-- What the IP header of a frame tells. -/
def fN (xs : List UInt8) : Nt := if (rdOf xs).2 ≠ 0 then ntNo 3 else ntK (rdOf xs).1.ty (xs.drop (atK xs))
theorem fN_no {xs : List UInt8} (h : (rdOf xs).2 ≠ 0) : fN xs = ntNo 3 := if_pos h
theorem fN_yes {xs : List UInt8} (h : (rdOf xs).2 = 0) : fN xs = ntK (rdOf xs).1.ty (xs.drop (atK xs)) := by unfold fN; rw [if_neg (by omega)]
/-- The frame's IP packet. -/
def packK (xs : List UInt8) : List UInt8 := (xs.drop (atK xs)).take (fN xs).total
/-- The protocol by which a packet of a Type is carried; the Type of an address's family. -/
def asN (ty : Int) : Nat := if ty = 34525 then 41 else 4
def tyA (a : Ad) : Int := if a.six = true then 34525 else 2048
theorem asN_vals (ty : Int) : asN ty = 4 ∨ asN ty = 41 := by unfold asN; split <;> simp
theorem tyA_vals (a : Ad) : tyA a = 2048 ∨ tyA a = 34525 := by unfold tyA; split <;> simp
/-- The headers behind which n bytes of protocol p go from s to d. -/
def h4T (s d : Ad) (p n : Nat) : Fr := ⟨20, ((20 + n : Nat) : Int), 0, 0, false, true, 64, (p : Int), s, d⟩
def h6T (s d : Ad) (p n : Nat) : Fr_9 := ⟨40, ((40 + n : Nat) : Int), 64, false, 0, (p : Int), s, d⟩
def headT (s d : Ad) (p n : Nat) : List UInt8 := if s.six = true then putF_9 (h6T s d p n) else putF (h4T s d p n)
def okT (s d : Ad) (p n : Nat) : Bool := if s.six = true then rightB_9 (h6T s d p n) else rightB (h4T s d p n)
def lenT (s : Ad) : Nat := if s.six = true then 40 else 20
def mostT (s : Ad) : Nat := if s.six = true then 65535 else 65515
theorem headT_len {s d : Ad} (hs : s.b.length = 16) (hd : d.b.length = 16) (p n : Nat) : (headT s d p n).length = lenT s := by
  unfold headT lenT
  split
  · exact putF_len_9 (f := h6T s d p n) ⟨hs, hd⟩
  · exact putF_len (f := h4T s d p n) ⟨hs, hd⟩
theorem okT_eq (s d : Ad) {p : Nat} (hp : p = 4 ∨ p = 41) (n : Nat) : okT s d p n = (famB s d && decide (n ≤ mostT s)) := by
  have e1 : ∀ m : Nat, inB ((20 + m : Nat) : Int) 20 65535 = decide (m ≤ 65515) := fun m => by unfold inB; rw [decide_eq_decide]; omega
  have e2 : ∀ m : Nat, inB ((40 + m : Nat) : Int) 40 65575 = decide (m ≤ 65535) := fun m => by unfold inB; rw [decide_eq_decide]; omega
  unfold okT mostT famB
  cases h : s.six with
  | true =>
    rw [if_pos rfl, if_pos rfl]
    unfold rightB_9 h6T
    simp only
    rw [e2 n, h]
    rcases hp with rfl | rfl <;> cases d.six <;> simp [inB, extI]
  | false =>
    rw [if_neg (by decide), if_neg (by decide)]
    unfold rightB h4T
    simp only
    rw [e1 n]
    cases h2 : d.six with
    | true =>
      have : shortB d = false := by unfold shortB; rw [h2]; rfl
      rw [this]
      rcases hp with rfl | rfl <;> cases shortB s <;> simp [inB]
    | false => rcases hp with rfl | rfl <;> cases shortB s <;> cases shortB d <;> simp [inB]
/-- A frame wrapped: the error, the bytes. -/
def wrapE (xs : List UInt8) (s d : Ad) : Nat := if (fN xs).e ≠ 0 then 3 else if famB s d = false then 1 else if mostT s < (fN xs).total then 4 else 0
def wrapL (xs : List UInt8) (s d : Ad) : List UInt8 := lkB { (rdOf xs).1 with ty := tyA s } ++ (headT s d (asN (rdOf xs).1.ty) (fN xs).total ++ packK xs)
/-- A frame unwrapped: what the IP packet within tells, whether there is one, the bytes. -/
def tyP (p : Nat) : Int := if p = 41 then 34525 else 2048
def ntP (p : Nat) (ys : List UInt8) : Nt := if p = 4 then nt4 ys else if p = 41 then nt6 ys else ntNo 3
theorem ntP_K {p : Nat} (h : p = 4 ∨ p = 41) (ys : List UInt8) : ntP p ys = ntK (tyP p) ys := by rcases h with rfl | rfl <;> rfl
theorem ntP_x {p : Nat} (h : ¬ (p = 4 ∨ p = 41)) (ys : List UInt8) : ntP p ys = ntNo 3 := by unfold ntP; rw [if_neg (by omega), if_neg (by omega)]
theorem tyP_as {ty : Int} (h : ty = 2048 ∨ ty = 34525) : tyP (asN ty) = ty := by rcases h with rfl | rfl <;> rfl
theorem ntP_fits (p : Nat) (ys : List UInt8) : (ntP p ys).Fits ys.length := by
  by_cases h : p = 4 ∨ p = 41
  · rw [ntP_K h]; exact ntK_fits _ _
  · rw [ntP_x h]; exact ntNo_fits _ _
def inL (xs : List UInt8) : List UInt8 := segN (xs.drop (atK xs)) (fN xs)
def inN (xs : List UInt8) : Nt := ntP (fN xs).proto (inL xs)
def unB (xs : List UInt8) : Bool := decide ((fN xs).e = 0) && (!(fN xs).frag && decide ((inN xs).e = 0))
def unL (xs : List UInt8) : List UInt8 := lkB { (rdOf xs).1 with ty := tyP (fN xs).proto } ++ (inL xs).take (inN xs).total
theorem unB_parts {xs : List UInt8} (h : unB xs = true) : (fN xs).e = 0 ∧ (fN xs).frag = false ∧ (inN xs).e = 0 := by
  unfold unB at h
  simp only [Bool.and_eq_true, decide_eq_true_eq, Bool.not_eq_true'] at h
  exact h
theorem inN_proto {xs : List UInt8} (h : (inN xs).e = 0) : (fN xs).proto = 4 ∨ (fN xs).proto = 41 := by
  by_cases hp : (fN xs).proto = 4 ∨ (fN xs).proto = 41
  · exact hp
  · unfold inN at h; rw [ntP_x hp] at h; cases h
/-- What is known of a frame with an IP packet. -/
structure FrameF (xs : List UInt8) (L : Lk) (p : Nat) (n : Nt) : Prop where
  r : rdOf xs = (L, 0)
  k : atK xs = p
  nf : fN xs = n
  six : L.Six
  right : rightB_7 L = true
  at_ : L.at_ = (p : Int)
  p0 : 14 ≤ p
  p1 : p ≤ 22
  p2 : p ≤ xs.length
  lk : lkB L = xs.take p
  tags : p = 14 + 4 * L.ts.length
  e : n.e = 0
  nk : ntK L.ty (xs.drop p) = n
  h1 : n.head ≤ n.total
  h2 : p + n.total ≤ xs.length
theorem frame_of {xs : List UInt8} (h : (fN xs).e = 0) : FrameF xs (rdOf xs).1 (atK xs) (fN xs) := by
  have h0 : (rdOf xs).2 = 0 := by
    by_cases h0 : (rdOf xs).2 = 0
    · exact h0
    · rw [fN_no h0] at h; cases h
  have e : rdOf xs = ((rdOf xs).1, 0) := by rw [← h0]
  obtain ⟨h6, hr, m, q1, q2, q3, q4, q5⟩ := rdOf_only e
  have hm : atK xs = m := by unfold atK; rw [q1]; rfl
  have hf := ntK_fits (rdOf xs).1.ty (xs.drop (atK xs))
  have hlen := congrArg List.length q5
  rw [lkB_len h6, List.length_take] at hlen
  have := hf.h2
  rw [List.length_drop, ← fN_yes h0] at this
  exact ⟨e, rfl, rfl, h6, hr, by rw [hm]; exact q1, by omega, by omega, by omega, by rw [hm]; exact q5, by omega, h, (fN_yes h0).symm, by rw [fN_yes h0]; exact hf.h1, by omega⟩
/-- The link's header with another Type may be laid. -/
theorem right_ty {L : Lk} (h : rightB_7 L = true) {ty : Int} (ht : ty = 2048 ∨ ty = 34525) : rightB_7 { L with ty := ty } = true := by
  obtain ⟨h1, h2, h3, h4⟩ := right_parts h
  unfold rightB_7
  simp only
  rw [h2, decide_eq_true h1]
  rcases ht with rfl | rfl <;> rfl
theorem six_ty {L : Lk} (h : L.Six) (ty : Int) : ({ L with ty := ty } : Lk).Six := ⟨h.d, h.s⟩
/-- Bytes that agree as far as the packet goes tell the same. -/
theorem ntK_agr {ty : Int} {xs ys : List UInt8} (h0 : (ntK ty xs).e = 0) (h : ys.take (ntK ty xs).total = xs.take (ntK ty xs).total) (hl : (ntK ty xs).total ≤ ys.length) : ntK ty ys = ntK ty xs := by
  rcases ntK_ty h0 with rfl | rfl
  · rw [ntK_4] at h0 h hl
    rw [ntK_4, ntK_4]
    have hf : faultN xs = 0 := by rw [← nt4_e]; exact h0
    have ht : (nt4 xs).total = wat xs 2 := by unfold nt4; rw [if_pos hf]
    rw [ht] at h hl
    exact nt4_agr hf h hl
  · rw [ntK_6] at h0 h hl
    rw [ntK_6, ntK_6]
    have hf : rdN xs = 0 := by rw [← nt6_e]; exact h0
    have ht : (nt6 xs).total = totN_9 xs := by unfold nt6; rw [if_pos hf]
    rw [ht] at h hl
    exact nt6_agr hf h hl
/-- What a header that is laid tells, with the bytes behind it. -/
theorem headT_read {s d : Ad} (hs : s.b.length = 16) (hd : d.b.length = 16) {p : Nat} {zs : List UInt8} (hr : okT s d p zs.length = true) (more : List UInt8) :
    ntK (tyA s) (headT s d p zs.length ++ (zs ++ more)) = ⟨0, lenT s, lenT s + zs.length, false, p, s, d⟩ := by
  unfold okT at hr
  unfold headT lenT tyA
  cases h : s.six with
  | true =>
    rw [h] at hr
    rw [if_pos rfl] at hr
    rw [if_pos rfl, if_pos rfl, if_pos rfl, ntK_6]
    obtain ⟨q1, q2⟩ := putF_back_9 (f := h6T s d p zs.length) ⟨hs, hd⟩ hr (zs ++ more) (by rw [List.length_append, List.length_append, putF_len_9 (f := h6T s d p zs.length) ⟨hs, hd⟩]; show ((40 + zs.length : Nat) : Int) ≤ _; omega)
    obtain ⟨e1, e2, e3, e4, e5, e6⟩ := nt6_fr (putF_9 (h6T s d p zs.length) ++ (zs ++ more))
    have e0 := nt6_e (putF_9 (h6T s d p zs.length) ++ (zs ++ more))
    rw [q1] at e0
    rw [q2] at e1 e2 e3 e4 e5 e6
    revert e0 e1 e2 e3 e4 e5 e6
    generalize nt6 (putF_9 (h6T s d p zs.length) ++ (zs ++ more)) = n
    obtain ⟨ne, nh, nt, nf, np, ns, nd⟩ := n
    intro e1 e2 e3 e4 e5 e6 e0
    simp only [h6T] at e0 e1 e2 e3 e4 e5 e6
    obtain rfl : nh = 40 := by omega
    obtain rfl : nt = 40 + zs.length := by omega
    obtain rfl : np = p := by omega
    rw [← e3, ← e5, ← e6, e0]
  | false =>
    rw [h] at hr
    rw [if_neg (by decide)] at hr
    rw [if_neg (by decide), if_neg (by decide), if_neg (by decide), ntK_4]
    obtain ⟨q1, q2⟩ := putF_back (f := h4T s d p zs.length) ⟨hs, hd⟩ hr (zs ++ more) (by rw [List.length_append, List.length_append, putF_len (f := h4T s d p zs.length) ⟨hs, hd⟩]; show ((20 + zs.length : Nat) : Int) ≤ _; omega)
    obtain ⟨e1, e2, e3, e4, e5, e6⟩ := nt4_fr (putF (h4T s d p zs.length) ++ (zs ++ more))
    have e0 := nt4_e (putF (h4T s d p zs.length) ++ (zs ++ more))
    rw [q1] at e0
    rw [q2] at e1 e2 e3 e4 e5 e6
    revert e0 e1 e2 e3 e4 e5 e6
    generalize nt4 (putF (h4T s d p zs.length) ++ (zs ++ more)) = n
    obtain ⟨ne, nh, nt, nf, np, ns, nd⟩ := n
    intro e1 e2 e3 e4 e5 e6 e0
    simp only [h4T] at e0 e1 e2 e3 e4 e5 e6
    obtain rfl : nh = 20 := by omega
    obtain rfl : nt = 20 + zs.length := by omega
    obtain rfl : np = p := by omega
    rw [← e3, ← e5, ← e6, e0]
theorem packK_len {xs : List UInt8} (h : (fN xs).e = 0) : (packK xs).length = (fN xs).total := by
  have hF := frame_of h
  unfold packK
  rw [List.length_take, List.length_drop]
  have := hF.h2
  omega
theorem wrapE_zero {xs : List UInt8} {s d : Ad} (h : wrapE xs s d = 0) : (fN xs).e = 0 ∧ famB s d = true ∧ (fN xs).total ≤ mostT s := by
  unfold wrapE at h
  split at h
  · cases h
  · split at h
    · cases h
    · split at h
      · cases h
      · rename_i h1 h2 h3
        exact ⟨by omega, by simpa using h2, by omega⟩
theorem wrapL_len {xs : List UInt8} {s d : Ad} (hs : s.b.length = 16) (hd : d.b.length = 16) (h : (fN xs).e = 0) : (wrapL xs s d).length = atK xs + (lenT s + (fN xs).total) := by
  have hF := frame_of h
  unfold wrapL
  rw [List.length_append, lkB_len (six_ty hF.six _), List.length_append, headT_len hs hd, packK_len h]
  have := hF.tags
  show 14 + 4 * (rdOf xs).1.ts.length + _ = _
  omega
/-- What is wrapped is read: the link's header but its Type, the new IP header, the packet behind it. -/
theorem wrap_read {xs : List UInt8} {s d : Ad} (hs : s.b.length = 16) (hd : d.b.length = 16) (h : wrapE xs s d = 0) (more : List UInt8) :
    rdOf (wrapL xs s d ++ more) = ({ (rdOf xs).1 with ty := tyA s }, 0) ∧ atK (wrapL xs s d ++ more) = atK xs ∧
    fN (wrapL xs s d ++ more) = ⟨0, lenT s, lenT s + (fN xs).total, false, asN (rdOf xs).1.ty, s, d⟩ ∧
    (wrapL xs s d ++ more).drop (atK xs) = headT s d (asN (rdOf xs).1.ty) (fN xs).total ++ (packK xs ++ more) := by
  obtain ⟨h0, hf, hm⟩ := wrapE_zero h
  have hF := frame_of h0
  have hr := right_ty hF.right (tyA_vals s)
  have e1 : rdOf (wrapL xs s d ++ more) = ({ (rdOf xs).1 with ty := tyA s }, 0) := by
    have := rdOf_back (six_ty hF.six (tyA s)) hr (headT s d (asN (rdOf xs).1.ty) (fN xs).total ++ packK xs ++ more)
    unfold wrapL
    rw [List.append_assoc, this]
    have e : ((14 + 4 * (rdOf xs).1.ts.length : Nat) : Int) = (rdOf xs).1.at_ := by rw [hF.at_]; have := hF.tags; omega
    show (({ (rdOf xs).1 with ty := tyA s, at_ := ((14 + 4 * (rdOf xs).1.ts.length : Nat) : Int) } : Lk), 0) = _
    rw [e]
  have e2 : atK (wrapL xs s d ++ more) = atK xs := by unfold atK; rw [e1]
  have e3 : (wrapL xs s d ++ more).drop (atK xs) = headT s d (asN (rdOf xs).1.ty) (fN xs).total ++ (packK xs ++ more) := by
    unfold wrapL
    have hl : (lkB { (rdOf xs).1 with ty := tyA s }).length = atK xs := by rw [lkB_len (six_ty hF.six _)]; exact hF.tags.symm
    rw [List.append_assoc, ← hl, List.drop_left, List.append_assoc]
  refine ⟨e1, e2, ?_, e3⟩
  rw [fN_yes (by rw [e1]), e1, e2, e3]
  have hlen := packK_len h0
  have := headT_read hs hd (p := asN (rdOf xs).1.ty) (zs := packK xs) (by rw [okT_eq s d (asN_vals _), hf, hlen]; exact decide_eq_true hm) more
  rw [hlen] at this
  exact this
/-- What is wrapped is unwrapped as it was, up to the end of its IP packet, with whatever behind it. -/
theorem wrap_back {xs : List UInt8} {s d : Ad} (hs : s.b.length = 16) (hd : d.b.length = 16) (h : wrapE xs s d = 0) (more : List UInt8) :
    unB (wrapL xs s d ++ more) = true ∧ unL (wrapL xs s d ++ more) = xs.take (atK xs + (fN xs).total) := by
  obtain ⟨e1, e2, e3, e4⟩ := wrap_read hs hd h more
  obtain ⟨h0, hf, hm⟩ := wrapE_zero h
  have hF := frame_of h0
  have hin : inL (wrapL xs s d ++ more) = packK xs := by
    unfold inL segN
    rw [e2, e3, e4]
    show (((headT s d (asN (rdOf xs).1.ty) (fN xs).total ++ (packK xs ++ more)).drop (lenT s)).take (lenT s + (fN xs).total - lenT s)) = _
    rw [← headT_len hs hd (asN (rdOf xs).1.ty) (fN xs).total, List.drop_left, Nat.add_sub_cancel_left, ← packK_len h0, List.take_left]
  have hty : (rdOf xs).1.ty = 2048 ∨ (rdOf xs).1.ty = 34525 := ntK_ty (ys := xs.drop (atK xs)) (by rw [hF.nk]; exact h0)
  have hinN : inN (wrapL xs s d ++ more) = fN xs := by
    unfold inN
    rw [hin, e3]
    show ntP (asN (rdOf xs).1.ty) (packK xs) = fN xs
    rw [ntP_K (asN_vals _), tyP_as hty]
    have e := hF.nk
    have : ntK (rdOf xs).1.ty (packK xs) = ntK (rdOf xs).1.ty (xs.drop (atK xs)) :=
      ntK_agr (by rw [e]; exact h0) (by rw [e]; unfold packK; rw [List.take_take, Nat.min_self]) (by rw [e, packK_len h0]; exact Nat.le_refl _)
    rw [this, e]
  refine ⟨?_, ?_⟩
  · unfold unB
    rw [hinN, e3, h0]
    rfl
  · unfold unL
    rw [hin, hinN, e1, e3]
    show lkB { (rdOf xs).1 with ty := tyP (asN (rdOf xs).1.ty) } ++ (packK xs).take (fN xs).total = _
    rw [tyP_as hty]
    show lkB (rdOf xs).1 ++ _ = _
    rw [hF.lk, ← packK_len h0, List.take_length, packK_len h0, List.take_add]
    rfl
end Go.Proofs.Ytomkfcpellcncaa
