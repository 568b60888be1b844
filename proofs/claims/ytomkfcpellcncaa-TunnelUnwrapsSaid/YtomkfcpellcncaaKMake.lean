/-
  Plain mathematics of stage 11: what a frame that is made is, why there is none, and how it is read.
-/
import Derived.Test.YtomkfcpellcncaaKRef2
namespace Go.Proofs.Ytomkfcpellcncaa
open Go.RowKit Go.Lib
/-- Is it UDP? -/
def udpT (t : Tu) : Bool := decide (t.pr = 17)
/-- How many bytes a segment's header has, an IP header has. -/
def shN_ (t : Tu) : Nat := if t.pr = 17 then 8 else 20
def ihN (t : Tu) : Nat := if t.s.six = true then 40 else 20
structure MakeOk (L : Lk) (t : Tu) (f : Int) : Prop where
  link : rightB_7 (typedL L t) = true
  fam : famB t.s t.d = true
  pr : t.pr = 6 ∨ t.pr = 17
  s0 : 0 ≤ t.sp
  s1 : t.sp ≤ 65535
  d0 : 0 ≤ t.dp
  d1 : t.dp ≤ 65535
  f0 : 0 ≤ f
  f1 : f ≤ 63
  fu : t.pr = 17 → f = 0
/-- The segment, its checksum not put in yet. -/
def segK (t : Tu) (f : Int) (load : List UInt8) : List UInt8 :=
  be2 t.sp.toNat ++ (be2 t.dp.toNat ++ ((if t.pr = 17 then be2 (8 + load.length) ++ [0, 0] else [0, 0, 0, 0, 0, 0, 0, 0, 80, UInt8.ofNat f.toNat, 0, 0, 0, 0, 0, 0]) ++ load))
theorem segK_len (t : Tu) (f : Int) (load : List UInt8) : (segK t f load).length = shN_ t + load.length := by
  unfold segK shN_
  split <;> simp [be2_len] <;> omega
def four4 (t : Tu) (n : Nat) : Fr := ⟨20, ((20 + n : Nat) : Int), 0, 0, false, true, 64, t.pr, t.s, t.d⟩
def six6 (t : Tu) (n : Nat) : Fr_9 := ⟨40, ((40 + n : Nat) : Int), 64, false, 0, t.pr, t.s, t.d⟩
def headK (t : Tu) (n : Nat) : List UInt8 := if t.s.six = true then putF_9 (six6 t n) else putF (four4 t n)
def fillK (t : Tu) (f : Int) (load : List UInt8) : List UInt8 := fillS t.s.six t.s.b t.d.b (udpT t) (segK t f load)
def ipK (t : Tu) (f : Int) (load : List UInt8) : List UInt8 := headK t (segK t f load).length ++ fillK t f load
def makeK (L : Lk) (t : Tu) (f : Int) (load : List UInt8) : List UInt8 := lkB (typedL L t) ++ ipK t f load
section
variable {L : Lk} {t : Tu} {f : Int} {load : List UInt8}
theorem fillK_len : (fillK t f load).length = shN_ t + load.length := by unfold fillK; rw [fillS_len, segK_len]
theorem seg_udp (h17 : t.pr = 17) (hl : 8 + load.length < 65536) : wat (segK t f load) 4 = 8 + load.length := by
  have e : wat (segK t f load) 4 = 256 * (UInt8.ofNat ((8 + load.length) / 256)).toNat + (UInt8.ofNat ((8 + load.length) % 256)).toNat := by
    unfold segK
    rw [if_pos h17]
    rfl
  rw [e, u8nat (by omega), u8nat (by omega)]
  omega
theorem seg_tcp (h : MakeOk L t f) (h17 : t.pr ≠ 17) : hlN (segK t f load) = 20 ∧ (batN (segK t f load) 13 : Int) = f := by
  have f0 := h.f0
  have f1 := h.f1
  have e1 : batN (segK t f load) 12 = 80 := by unfold segK; rw [if_neg h17]; rfl
  have e2 : batN (segK t f load) 13 = (UInt8.ofNat f.toNat).toNat := by unfold segK; rw [if_neg h17]; rfl
  unfold hlN
  rw [e1, e2, u8nat (by omega)]
  omega
theorem seg_fault (h : MakeOk L t f) (hl : 8 + load.length < 65536) : faultB (udpT t) (segK t f load) = 0 := by
  have hlen := segK_len t f load
  unfold udpT
  by_cases h17 : t.pr = 17
  · rw [decide_eq_true h17]
    show faultU _ = 0
    have hs : shN_ t = 8 := if_pos h17
    unfold faultU
    rw [seg_udp h17 hl, hlen, hs, if_neg (by omega), if_neg (by omega), if_neg (by omega)]
  · rw [decide_eq_false h17]
    show faultT _ = 0
    have hs : shN_ t = 20 := if_neg h17
    unfold faultT
    rw [(seg_tcp h h17).1, hlen, hs, if_neg (by omega), if_neg (by omega), if_neg (by omega)]
theorem four_right (h : MakeOk L t f) (hs : t.s.six = false) {n : Nat} (hn : 20 + n ≤ 65535) : rightB (four4 t n) = true := by
  have hf := h.fam
  unfold famB at hf
  rw [hs] at hf
  simp only [Bool.false_or, Bool.and_eq_true] at hf
  have hp : inB t.pr 0 255 = true := by
    rcases h.pr with e | e <;> rw [e] <;> decide
  have ht : inB ((20 + n : Nat) : Int) 20 65535 = true := decide_eq_true (by omega)
  unfold rightB four4
  simp only
  rw [ht, hp, hf.2.1, hf.2.2]
  rfl
theorem six_right (h : MakeOk L t f) (hs : t.s.six = true) {n : Nat} (hn : 40 + n ≤ 65575) : rightB_9 (six6 t n) = true := by
  have hf := h.fam
  unfold famB at hf
  rw [hs] at hf
  have hd : t.d.six = true := by
    cases hq : t.d.six
    · rw [hq] at hf; cases hf
    · rfl
  have ht : inB ((40 + n : Nat) : Int) 40 65575 = true := decide_eq_true (by omega)
  unfold rightB_9 six6
  simp only
  rw [ht, hs, hd]
  rcases h.pr with e | e <;> rw [e] <;> rfl
theorem readK_4 {xs : List UInt8} (h : (rdOf xs).2 = 0) (ht : (rdOf xs).1.ty = 2048) : readK xs = behind (atK xs) (xs.drop (atK xs)) (nt4 (xs.drop (atK xs))) := by unfold readK; rw [if_neg (by omega), if_pos ht]
theorem readK_6 {xs : List UInt8} (h : (rdOf xs).2 = 0) (ht : (rdOf xs).1.ty = 34525) : readK xs = behind (atK xs) (xs.drop (atK xs)) (nt6 (xs.drop (atK xs))) := by unfold readK; rw [if_neg (by omega), if_neg (by rw [ht]; decide), if_pos ht]
end
/-- May a frame be made, its size set aside? -/
def okB (L : Lk) (t : Tu) (f : Int) : Bool :=
  rightB_7 (typedL L t) && (famB t.s t.d && (decide (t.pr = 6 ∨ t.pr = 17) && (decide (0 ≤ t.sp ∧ t.sp ≤ 65535) && (decide (0 ≤ t.dp ∧ t.dp ≤ 65535) && (decide (0 ≤ f ∧ f ≤ 63) && decide (t.pr = 17 → f = 0))))))
/-- Why no frame is made of so many bytes of load. -/
def whyN (L : Lk) (t : Tu) (f : Int) (n : Nat) : Nat := if okB L t f = false then 1 else if 65535 < ihN t + (shN_ t + n) then 4 else 0
end Go.Proofs.Ytomkfcpellcncaa
