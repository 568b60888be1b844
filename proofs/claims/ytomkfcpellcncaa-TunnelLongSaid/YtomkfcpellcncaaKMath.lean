/-
  Plain mathematics of stage 11: tuples, packets, how a frame is read. No program is walked here.
-/
import Derived.Test.YtomkfcpellcncaaQ7
import Derived.Test.YtomkfcpellcncaaQ8
import Derived.Test.YtomkfcpellcncaaQ9
import Derived.Test.YtomkfcpellcncaaQ10
namespace Go.Proofs.Ytomkfcpellcncaa
open Go.RowKit Go.Lib
/-- A tuple. -/
structure Tu where
  s : Ad
  d : Ad
  pr : Int
  sp : Int
  dp : Int
structure Tu.Ok (t : Tu) : Prop where
  s : t.s.b.length = 16
  d : t.d.b.length = 16
def Tu.zero : Tu := ⟨Ad.zero, Ad.zero, 0, 0, 0⟩
theorem Tu.ok_zero : Tu.zero.Ok := ⟨rfl, rfl⟩
def turnT (t : Tu) : Tu := ⟨t.d, t.s, t.pr, t.dp, t.sp⟩
theorem turnT_ok {t : Tu} (h : t.Ok) : (turnT t).Ok := ⟨h.d, h.s⟩
theorem turnT_turnT (t : Tu) : turnT (turnT t) = t := rfl
/-- A packet. -/
structure Pk where
  kind : Int
  t : Tu
  fl : Int
  net : Int
  sg : Int
  en : Int
def kindK (k : Int) : Pk := ⟨k, Tu.zero, 0, 0, 0, 0⟩
/-- What an IP header tells, of both families. -/
structure Nt where
  e : Nat
  head : Nat
  total : Nat
  frag : Bool
  proto : Nat
  s : Ad
  d : Ad
def ntNo (e : Nat) : Nt := ⟨e, 0, 0, false, 0, Ad.zero, Ad.zero⟩
def nt4 (xs : List UInt8) : Nt := if faultN xs = 0 then ⟨0, ihl xs, wat xs 2, decide (wat xs 6 % 16384 ≠ 0), batN xs 9, adOf xs 12, adOf xs 16⟩ else ntNo (faultN xs)
def wkOf (xs : List UInt8) : Wk := (walkOf xs (totN_9 xs) (wk0 xs)).2
def nt6 (xs : List UInt8) : Nt := if rdN xs = 0 then ⟨0, (wkOf xs).head, totN_9 xs, (wkOf xs).frag, (wkOf xs).proto, adOf_9 xs 8, adOf_9 xs 24⟩ else ntNo (rdN xs)
theorem nt4_e (xs : List UInt8) : (nt4 xs).e = faultN xs := by
  unfold nt4
  split
  · rename_i h; exact h.symm
  · rfl
theorem nt6_e (xs : List UInt8) : (nt6 xs).e = rdN xs := by
  unfold nt6
  split
  · rename_i h; exact h.symm
  · rfl
theorem nt4_fr (xs : List UInt8) : (rdF xs).head = ((nt4 xs).head : Int) ∧ (rdF xs).total = ((nt4 xs).total : Int) ∧ (rdF xs).frag = (nt4 xs).frag ∧ (rdF xs).proto = ((nt4 xs).proto : Int) ∧ (rdF xs).s = (nt4 xs).s ∧ (rdF xs).d = (nt4 xs).d := by
  by_cases h : faultN xs = 0
  · have e : nt4 xs = ⟨0, ihl xs, wat xs 2, decide (wat xs 6 % 16384 ≠ 0), batN xs 9, adOf xs 12, adOf xs 16⟩ := if_pos h
    rw [rdF_yes h, e]
    exact ⟨rfl, rfl, rfl, rfl, rfl, rfl⟩
  · have e : nt4 xs = ntNo (faultN xs) := if_neg h
    rw [rdF_no h, e]
    exact ⟨rfl, rfl, rfl, rfl, rfl, rfl⟩
theorem nt6_fr (xs : List UInt8) : (rdF_9 xs).head = ((nt6 xs).head : Int) ∧ (rdF_9 xs).total = ((nt6 xs).total : Int) ∧ (rdF_9 xs).frag = (nt6 xs).frag ∧ (rdF_9 xs).proto = ((nt6 xs).proto : Int) ∧ (rdF_9 xs).s = (nt6 xs).s ∧ (rdF_9 xs).d = (nt6 xs).d := by
  by_cases h : rdN xs = 0
  · have e : nt6 xs = ⟨0, (wkOf xs).head, totN_9 xs, (wkOf xs).frag, (wkOf xs).proto, adOf_9 xs 8, adOf_9 xs 24⟩ := if_pos h
    rw [rdF_yes_9 h, e]
    exact ⟨rfl, rfl, rfl, rfl, rfl, rfl⟩
  · have e : nt6 xs = ntNo (rdN xs) := if_neg h
    rw [rdF_no_9 h, e]
    exact ⟨rfl, rfl, rfl, rfl, rfl, rfl⟩
theorem fault_parts {xs : List UInt8} (h : faultN xs = 0) : 20 ≤ ihl xs ∧ ihl xs ≤ wat xs 2 ∧ wat xs 2 ≤ xs.length := by
  unfold faultN at h
  repeat' split at h
  all_goals omega
theorem walkN_fit (xs : List UInt8) (T : Nat) : ∀ (n : Nat) (k : Wk), k.Fit T → (walkN xs T n k).1 = 0 → (walkN xs T n k).2.Fit T
  | 0, k, hk, _ => hk
  | n + 1, k, hk, h => by
    unfold walkN at h ⊢
    split
    · rename_i hg
      rw [if_pos hg] at h
      split
      · rename_i hs
        rw [if_pos hs] at h
        exact walkN_fit xs T n _ (stepK_fit hk hs) h
      · rename_i hs
        rw [if_neg hs] at h
        exact absurd h hs
    · exact hk
/-- What is told of a header without a fault. -/
structure Nt.Fits (n : Nt) (len : Nat) : Prop where
  s : n.s.b.length = 16
  d : n.d.b.length = 16
  h1 : n.head ≤ n.total
  h2 : n.total ≤ len
theorem ntNo_fits (e len : Nat) : (ntNo e).Fits len := ⟨rfl, rfl, Nat.le_refl _, Nat.zero_le _⟩
theorem nt4_fits (xs : List UInt8) : (nt4 xs).Fits xs.length := by
  by_cases h : faultN xs = 0
  · have e : nt4 xs = ⟨0, ihl xs, wat xs 2, decide (wat xs 6 % 16384 ≠ 0), batN xs 9, adOf xs 12, adOf xs 16⟩ := if_pos h
    have h20 := (fault_zero h).1
    obtain ⟨p1, p2, p3⟩ := fault_parts h
    rw [e]
    exact ⟨adOf_len xs 12 (by omega), adOf_len xs 16 (by omega), p2, p3⟩
  · have e : nt4 xs = ntNo (faultN xs) := if_neg h
    rw [e]
    exact ntNo_fits _ _
theorem nt6_fits (xs : List UInt8) : (nt6 xs).Fits xs.length := by
  by_cases h : rdN xs = 0
  · have e : nt6 xs = ⟨0, (wkOf xs).head, totN_9 xs, (wkOf xs).frag, (wkOf xs).proto, adOf_9 xs 8, adOf_9 xs 24⟩ := if_pos h
    have hf : faultN_9 xs = 0 := by
      by_cases hf : faultN_9 xs = 0
      · exact hf
      · rw [rdN_bad hf] at h; exact absurd h hf
    obtain ⟨q1, q2, q3⟩ := fault_zero_9 hf
    rw [rdN_walk hf] at h
    have hfit := walkN_fit xs (totN_9 xs) _ (wk0 xs) (wk0_fit (by unfold totN_9; omega)) h
    rw [e]
    exact ⟨adOf_len_9 xs 8 (by omega), adOf_len_9 xs 24 (by omega), hfit.h1, q3⟩
  · have e : nt6 xs = ntNo (rdN xs) := if_neg h
    rw [e]
    exact ntNo_fits _ _
theorem nt6_proto {xs : List UInt8} : (nt6 xs).e ≤ 4 := by rw [nt6_e]; exact rdN_le xs
/-- The segment that an IP packet carries. -/
def segN (rest : List UInt8) (n : Nt) : List UInt8 := (rest.drop n.head).take (n.total - n.head)
/-- The packet, from its IP header on. -/
def behind (at_ : Nat) (rest : List UInt8) (n : Nt) : Pk :=
  if n.e ≠ 0 then kindK 3 else if n.frag = true then kindK 4 else if n.proto ≠ 6 ∧ n.proto ≠ 17 then kindK 5
  else if faultP (n.proto : Nat) (segN rest n) ≠ 0 then kindK 6
  else ⟨0, ⟨n.s, n.d, (n.proto : Nat), ((rdP (n.proto : Nat) (segN rest n)).s : Nat), ((rdP (n.proto : Nat) (segN rest n)).d : Nat)⟩, ((rdP (n.proto : Nat) (segN rest n)).f : Nat), (at_ : Nat), ((at_ + n.head : Nat) : Int), ((at_ + n.total : Nat) : Int)⟩
/-- At which byte the IP header begins, as the frame's header tells. -/
def atK (xs : List UInt8) : Nat := (rdOf xs).1.at_.toNat
def readK (xs : List UInt8) : Pk :=
  if (rdOf xs).2 ≠ 0 then kindK 1 else if (rdOf xs).1.ty = 2048 then behind (atK xs) (xs.drop (atK xs)) (nt4 (xs.drop (atK xs)))
  else if (rdOf xs).1.ty = 34525 then behind (atK xs) (xs.drop (atK xs)) (nt6 (xs.drop (atK xs))) else kindK 2
theorem atK_ok {xs : List UInt8} (h : (rdOf xs).2 = 0) : (rdOf xs).1.at_ = (atK xs : Int) ∧ atK xs ≤ xs.length ∧ 14 ≤ atK xs ∧ atK xs ≤ 22 ∧ (rdOf xs).1.Six := by
  have e : rdOf xs = ((rdOf xs).1, 0) := by rw [← h]
  obtain ⟨h6, _, m, h1, h2, h3, h4, _⟩ := rdOf_only e
  have : atK xs = m := by unfold atK; rw [h1]; rfl
  rw [this]
  exact ⟨h1, h2, h3, h4, h6⟩
section
variable {at_ : Nat} {rest : List UInt8} {n : Nt}
theorem behind_3 (h : n.e ≠ 0) : behind at_ rest n = kindK 3 := if_pos h
theorem behind_4 (h : n.e = 0) (h2 : n.frag = true) : behind at_ rest n = kindK 4 := by unfold behind; rw [if_neg (by omega), if_pos h2]
theorem behind_5 (h : n.e = 0) (h2 : n.frag = false) (h3 : n.proto ≠ 6 ∧ n.proto ≠ 17) : behind at_ rest n = kindK 5 := by unfold behind; rw [if_neg (by omega), if_neg (by rw [h2]; decide), if_pos h3]
theorem behind_6 (h : n.e = 0) (h2 : n.frag = false) (h3 : ¬ (n.proto ≠ 6 ∧ n.proto ≠ 17)) (h4 : faultP (n.proto : Nat) (segN rest n) ≠ 0) : behind at_ rest n = kindK 6 := by
  unfold behind; rw [if_neg (by omega), if_neg (by rw [h2]; decide), if_neg h3, if_pos h4]
theorem behind_0 (h : n.e = 0) (h2 : n.frag = false) (h3 : ¬ (n.proto ≠ 6 ∧ n.proto ≠ 17)) (h4 : faultP (n.proto : Nat) (segN rest n) = 0) : behind at_ rest n = ⟨0, ⟨n.s, n.d, (n.proto : Nat), ((rdP (n.proto : Nat) (segN rest n)).s : Nat), ((rdP (n.proto : Nat) (segN rest n)).d : Nat)⟩, ((rdP (n.proto : Nat) (segN rest n)).f : Nat), (at_ : Nat), ((at_ + n.head : Nat) : Int), ((at_ + n.total : Nat) : Int)⟩ := by
  unfold behind; rw [if_neg (by omega), if_neg (by rw [h2]; decide), if_neg h3, if_neg (by omega)]
end
end Go.Proofs.Ytomkfcpellcncaa
