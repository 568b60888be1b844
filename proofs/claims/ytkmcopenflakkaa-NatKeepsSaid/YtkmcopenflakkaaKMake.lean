/-
  Plain mathematics of stage 11: what a frame that is made is, why there is none, and how it is read.
-/
import Derived.Test.YtkmcopenflakkaaKRef2
namespace Go.Proofs.Ytkmcopenflakkaa
open Go.RowKit Go.Lib
/-- Is it UDP? -/
def udpT (t : Tu) : Bool := decide (t.pr = 17)
/-- How many bytes a segment's header has, an IP header has. -/
def shN_ (t : Tu) : Nat := if t.pr = 17 then 8 else 20
def ihN (t : Tu) : Nat := if t.s.six = true then 40 else 20
structure MakeOk (L : Lk) (t : Tu) (f : Int) : Prop where
  link : rightB_7 (typedL L t) = true
  fam : famB t.s t.d = true
  pr : t.pr = 6 ∨ t.pr = 17
  s0 : 0 ≤ t.sp
  s1 : t.sp ≤ 65535
  d0 : 0 ≤ t.dp
  d1 : t.dp ≤ 65535
  f0 : 0 ≤ f
  f1 : f ≤ 63
  fu : t.pr = 17 → f = 0
/-- The segment, its checksum not put in yet. -/
def segK (t : Tu) (f : Int) (load : List UInt8) : List UInt8 :=
  be2 t.sp.toNat ++ (be2 t.dp.toNat ++ ((if t.pr = 17 then be2 (8 + load.length) ++ [0, 0] else [0, 0, 0, 0, 0, 0, 0, 0, 80, UInt8.ofNat f.toNat, 0, 0, 0, 0, 0, 0]) ++ load))
theorem segK_len (t : Tu) (f : Int) (load : List UInt8) : (segK t f load).length = shN_ t + load.length := by
  unfold segK shN_
  split <;> simp [be2_len] <;> omega
def four4 (t : Tu) (n : Nat) : Fr := ⟨20, ((20 + n : Nat) : Int), 0, 0, false, true, 64, t.pr, t.s, t.d⟩
def six6 (t : Tu) (n : Nat) : Fr_9 := ⟨40, ((40 + n : Nat) : Int), 64, false, 0, t.pr, t.s, t.d⟩
def headK (t : Tu) (n : Nat) : List UInt8 := if t.s.six = true then putF_9 (six6 t n) else putF (four4 t n)
def fillK (t : Tu) (f : Int) (load : List UInt8) : List UInt8 := fillS t.s.six t.s.b t.d.b (udpT t) (segK t f load)
def ipK (t : Tu) (f : Int) (load : List UInt8) : List UInt8 := headK t (segK t f load).length ++ fillK t f load
def makeK (L : Lk) (t : Tu) (f : Int) (load : List UInt8) : List UInt8 := lkB (typedL L t) ++ ipK t f load
section
variable {L : Lk} {t : Tu} {f : Int} {load : List UInt8}
theorem fillK_len : (fillK t f load).length = shN_ t + load.length := by unfold fillK; rw [fillS_len, segK_len]
theorem seg_wat0 (h : MakeOk L t f) : (wat (segK t f load) 0 : Int) = t.sp ∧ (wat (segK t f load) 2 : Int) = t.dp := by
  have s0 := h.s0
  have s1 := h.s1
  have d0 := h.d0
  have d1 := h.d1
  have e0 : wat (segK t f load) 0 = 256 * (UInt8.ofNat (t.sp.toNat / 256)).toNat + (UInt8.ofNat (t.sp.toNat % 256)).toNat := rfl
  have e2 : wat (segK t f load) 2 = 256 * (UInt8.ofNat (t.dp.toNat / 256)).toNat + (UInt8.ofNat (t.dp.toNat % 256)).toNat := rfl
  rw [e0, e2, u8nat (by omega), u8nat (by omega), u8nat (by omega), u8nat (by omega)]
  omega
theorem seg_udp (h17 : t.pr = 17) (hl : 8 + load.length < 65536) : wat (segK t f load) 4 = 8 + load.length := by
  have e : wat (segK t f load) 4 = 256 * (UInt8.ofNat ((8 + load.length) / 256)).toNat + (UInt8.ofNat ((8 + load.length) % 256)).toNat := by
    unfold segK
    rw [if_pos h17]
    rfl
  rw [e, u8nat (by omega), u8nat (by omega)]
  omega
theorem seg_tcp (h : MakeOk L t f) (h17 : t.pr ≠ 17) : hlN (segK t f load) = 20 ∧ (batN (segK t f load) 13 : Int) = f := by
  have f0 := h.f0
  have f1 := h.f1
  have e1 : batN (segK t f load) 12 = 80 := by unfold segK; rw [if_neg h17]; rfl
  have e2 : batN (segK t f load) 13 = (UInt8.ofNat f.toNat).toNat := by unfold segK; rw [if_neg h17]; rfl
  unfold hlN
  rw [e1, e2, u8nat (by omega)]
  omega
theorem seg_fault (h : MakeOk L t f) (hl : 8 + load.length < 65536) : faultB (udpT t) (segK t f load) = 0 := by
  have hlen := segK_len t f load
  unfold udpT
  by_cases h17 : t.pr = 17
  · rw [decide_eq_true h17]
    show faultU _ = 0
    have hs : shN_ t = 8 := if_pos h17
    unfold faultU
    rw [seg_udp h17 hl, hlen, hs, if_neg (by omega), if_neg (by omega), if_neg (by omega)]
  · rw [decide_eq_false h17]
    show faultT _ = 0
    have hs : shN_ t = 20 := if_neg h17
    unfold faultT
    rw [(seg_tcp h h17).1, hlen, hs, if_neg (by omega), if_neg (by omega), if_neg (by omega)]
theorem pr_prN (h : MakeOk L t f) : t.pr = (prN (udpT t) : Int) := by
  unfold udpT
  rcases h.pr with e | e
  · rw [e]; rfl
  · rw [e]; rfl
theorem fillK_wat (i : Nat) (hi : i < 6) : batN (fillK t f load) i = batN (segK t f load) i :=
  batN_of (fillS_get (by unfold plc; split <;> omega) (by unfold plc; split <;> omega))
/-- How the segment of a frame that is made is read. -/
theorem fillK_read (h : MakeOk L t f) (hl : 8 + load.length < 65536) : faultP t.pr (fillK t f load) = 0 ∧ ((rdP t.pr (fillK t f load)).s : Int) = t.sp ∧ ((rdP t.pr (fillK t f load)).d : Int) = t.dp ∧ ((rdP t.pr (fillK t f load)).f : Int) = f := by
  have hf0 : faultB (udpT t) (fillK t f load) = 0 := fill_fault.1.trans (seg_fault h hl)
  have hf : faultP t.pr (fillK t f load) = 0 := by rw [pr_prN h, faultP_pr]; exact hf0
  obtain ⟨w0, w2⟩ := seg_wat0 (load := load) h
  have e0 : wat (fillK t f load) 0 = wat (segK t f load) 0 := by unfold wat; rw [fillK_wat 0 (by omega), fillK_wat 1 (by omega)]
  have e2 : wat (fillK t f load) 2 = wat (segK t f load) 2 := by unfold wat; rw [fillK_wat 2 (by omega), fillK_wat 3 (by omega)]
  refine ⟨hf, ?_⟩
  rcases h.pr with e | e
  · rw [e] at hf ⊢
    rw [rdP_T hf]
    have h13 : batN (fillK t f load) 13 = batN (segK t f load) 13 := batN_of (fillS_get (by unfold udpT plc; rw [e]; decide) (by unfold udpT plc; rw [e]; decide))
    have hb := (seg_tcp (load := load) h (by rw [e]; decide)).2
    have f0 := h.f0
    have f1 := h.f1
    refine ⟨by show ((wat _ 0 : Nat) : Int) = _; rw [e0]; exact w0, by show ((wat _ 2 : Nat) : Int) = _; rw [e2]; exact w2, ?_⟩
    show ((batN (fillK t f load) 13 % 64 : Nat) : Int) = f
    rw [h13]
    omega
  · have hfu := h.fu e
    rw [e] at hf ⊢
    rw [rdP_U hf]
    exact ⟨by show ((wat _ 0 : Nat) : Int) = _; rw [e0]; exact w0, by show ((wat _ 2 : Nat) : Int) = _; rw [e2]; exact w2, by rw [hfu]; rfl⟩
theorem behind_made (h : MakeOk L t f) (hl : 8 + load.length < 65536) {n : Nt} {hd more : List UInt8} {ih : Nat} (hh : hd.length = ih) (e0 : n.e = 0) (e1 : n.head = ih) (e2 : n.total = ih + (shN_ t + load.length)) (e3 : n.frag = false) (e4 : (n.proto : Int) = t.pr) (e5 : n.s = t.s) (e6 : n.d = t.d) (p : Nat) :
    behind p (hd ++ fillK t f load ++ more) n = ⟨0, t, f, (p : Nat), ((p + ih : Nat) : Int), ((p + (ih + (shN_ t + load.length)) : Nat) : Int)⟩ := by
  have hseg : segN (hd ++ fillK t f load ++ more) n = fillK t f load := by
    unfold segN
    rw [e1, e2, List.append_assoc, List.drop_append_of_le_length (by omega), List.drop_of_length_le (by omega), List.nil_append, Nat.add_sub_cancel_left, ← fillK_len (t := t) (f := f) (load := load), List.take_append_of_le_length (Nat.le_refl _), List.take_length]
  obtain ⟨r0, r1, r2, r3⟩ := fillK_read (load := load) h hl
  have hp : ¬ (n.proto ≠ 6 ∧ n.proto ≠ 17) := by
    rcases h.pr with e | e <;> omega
  rw [behind_0 e0 e3 hp (by rw [hseg, e4]; exact r0), hseg, e4, e5, e6, r1, r2, r3, e1, e2]
theorem four_right (h : MakeOk L t f) (hs : t.s.six = false) {n : Nat} (hn : 20 + n ≤ 65535) : rightB (four4 t n) = true := by
  have hf := h.fam
  unfold famB at hf
  rw [hs] at hf
  simp only [Bool.false_or, Bool.and_eq_true] at hf
  have hp : inB t.pr 0 255 = true := by
    rcases h.pr with e | e <;> rw [e] <;> decide
  have ht : inB ((20 + n : Nat) : Int) 20 65535 = true := decide_eq_true (by omega)
  unfold rightB four4
  simp only
  rw [ht, hp, hf.2.1, hf.2.2]
  rfl
theorem six_right (h : MakeOk L t f) (hs : t.s.six = true) {n : Nat} (hn : 40 + n ≤ 65535) : rightB_9 (six6 t n) = true := by
  have hf := h.fam
  unfold famB at hf
  rw [hs] at hf
  have hd : t.d.six = true := by
    cases hq : t.d.six
    · rw [hq] at hf; cases hf
    · rfl
  have ht : inB ((40 + n : Nat) : Int) 40 65575 = true := decide_eq_true (by omega)
  unfold rightB_9 six6
  simp only
  rw [ht, hs, hd]
  rcases h.pr with e | e <;> rw [e] <;> rfl
theorem readK_4 {xs : List UInt8} (h : (rdOf xs).2 = 0) (ht : (rdOf xs).1.ty = 2048) : readK xs = behind (atK xs) (xs.drop (atK xs)) (nt4 (xs.drop (atK xs))) := by unfold readK; rw [if_neg (by omega), if_pos ht]
theorem readK_6 {xs : List UInt8} (h : (rdOf xs).2 = 0) (ht : (rdOf xs).1.ty = 34525) : readK xs = behind (atK xs) (xs.drop (atK xs)) (nt6 (xs.drop (atK xs))) := by unfold readK; rw [if_neg (by omega), if_neg (by rw [ht]; decide), if_pos ht]
/-- How a frame that is made is read, whatever stands behind it. -/
theorem make_read (h6 : L.Six) (ho : t.Ok) (h : MakeOk L t f) (hl : ihN t + (shN_ t + load.length) ≤ 65535) (more : List UInt8) :
    readK (makeK L t f load ++ more) = ⟨0, t, f, ((14 + 4 * L.ts.length : Nat) : Int), ((14 + 4 * L.ts.length + ihN t : Nat) : Int), ((14 + 4 * L.ts.length + (ihN t + (shN_ t + load.length)) : Nat) : Int)⟩ := by
  have hsh : 8 ≤ shN_ t ∧ 20 ≤ ihN t := by
    unfold shN_ ihN
    constructor <;> split <;> omega
  have e : makeK L t f load ++ more = lkB (typedL L t) ++ (ipK t f load ++ more) := by unfold makeK; rw [List.append_assoc]
  have hb := rdOf_back (typed_six h6 t) h.link (ipK t f load ++ more)
  have hat : atK (lkB (typedL L t) ++ (ipK t f load ++ more)) = 14 + 4 * L.ts.length := by unfold atK; rw [hb]; rfl
  have hdr : (lkB (typedL L t) ++ (ipK t f load ++ more)).drop (14 + 4 * L.ts.length) = ipK t f load ++ more := by
    have hlk : (lkB (typedL L t)).length = 14 + 4 * L.ts.length := lkB_len (typed_six h6 t)
    rw [← hlk, List.drop_append_of_le_length (Nat.le_refl _), List.drop_length, List.nil_append]
  rw [e]
  have hfl := fillK_len (t := t) (f := f) (load := load)
  have hsl := segK_len t f load
  cases hs : t.s.six
  · have hih : ihN t = 20 := by unfold ihN; rw [hs]; rfl
    have hty : tyOf t = 2048 := by unfold tyOf; rw [hs]; rfl
    have hip : ipK t f load = putF (four4 t (shN_ t + load.length)) ++ fillK t f load := by unfold ipK headK; rw [hs, hsl]; rfl
    have hok : (four4 t (shN_ t + load.length)).Ok := ⟨ho.s, ho.d⟩
    have hr := four_right h hs (n := shN_ t + load.length) (by omega)
    obtain ⟨q1, q2⟩ := putF_back hok hr (fillK t f load ++ more) (by rw [List.length_append, putF_len hok, List.length_append, hfl]; show ((20 + (shN_ t + load.length) : Nat) : Int) ≤ _; omega)
    rw [← List.append_assoc] at q1 q2
    rw [readK_4 (by rw [hb]) (by rw [hb]; exact hty), hat, hdr, hip]
    have ne := nt4_e (putF (four4 t (shN_ t + load.length)) ++ fillK t f load ++ more)
    obtain ⟨n1, n2, n3, n4, n5, n6⟩ := nt4_fr (putF (four4 t (shN_ t + load.length)) ++ fillK t f load ++ more)
    rw [q2] at n1 n2 n3 n4 n5 n6
    rw [q1] at ne
    have m1 : (20 : Int) = _ := n1
    have m2 : ((20 + (shN_ t + load.length) : Nat) : Int) = _ := n2
    rw [behind_made h (by omega) (putF_len hok) ne (by omega) (by omega) n3.symm n4.symm n5.symm n6.symm, hih]
  · have hih : ihN t = 40 := by unfold ihN; rw [hs]; rfl
    have hty : tyOf t = 34525 := by unfold tyOf; rw [hs]; rfl
    have hip : ipK t f load = putF_9 (six6 t (shN_ t + load.length)) ++ fillK t f load := by unfold ipK headK; rw [hs, hsl]; rfl
    have hok : (six6 t (shN_ t + load.length)).Ok := ⟨ho.s, ho.d⟩
    have hr := six_right h hs (n := shN_ t + load.length) (by omega)
    obtain ⟨q1, q2⟩ := putF_back_9 hok hr (fillK t f load ++ more) (by rw [List.length_append, putF_len_9 hok, List.length_append, hfl]; show ((40 + (shN_ t + load.length) : Nat) : Int) ≤ _; omega)
    rw [← List.append_assoc] at q1 q2
    rw [readK_6 (by rw [hb]) (by rw [hb]; exact hty), hat, hdr, hip]
    have ne := nt6_e (putF_9 (six6 t (shN_ t + load.length)) ++ fillK t f load ++ more)
    obtain ⟨n1, n2, n3, n4, n5, n6⟩ := nt6_fr (putF_9 (six6 t (shN_ t + load.length)) ++ fillK t f load ++ more)
    rw [q2] at n1 n2 n3 n4 n5 n6
    rw [q1] at ne
    have m1 : (40 : Int) = _ := n1
    have m2 : ((40 + (shN_ t + load.length) : Nat) : Int) = _ := n2
    rw [behind_made h (by omega) (putF_len_9 hok) ne (by omega) (by omega) n3.symm n4.symm n5.symm n6.symm, hih]
end
/-- May a frame be made, its size set aside? -/
def okB (L : Lk) (t : Tu) (f : Int) : Bool :=
  rightB_7 (typedL L t) && (famB t.s t.d && (decide (t.pr = 6 ∨ t.pr = 17) && (decide (0 ≤ t.sp ∧ t.sp ≤ 65535) && (decide (0 ≤ t.dp ∧ t.dp ≤ 65535) && (decide (0 ≤ f ∧ f ≤ 63) && decide (t.pr = 17 → f = 0))))))
/-- Why no frame is made of so many bytes of load. -/
def whyN (L : Lk) (t : Tu) (f : Int) (n : Nat) : Nat := if okB L t f = false then 1 else if 65535 < ihN t + (shN_ t + n) then 4 else 0
end Go.Proofs.Ytkmcopenflakkaa
