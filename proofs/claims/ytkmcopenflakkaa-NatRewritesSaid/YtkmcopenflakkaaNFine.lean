/-
  Plain mathematics of stage 12: fine frames, their places, and what of them is rewritten. No program is walked here.
-/
import Derived.Test.YtkmcopenflakkaaNMath
namespace Go.Proofs.Ytkmcopenflakkaa
open Go.RowKit Go.Lib

theorem wat_take {xs : List UInt8} {n i : Nat} (h : i + 1 < n) : wat (xs.take n) i = wat xs i := by
  unfold wat batN
  rw [List.getD_eq_getElem?_getD, List.getD_eq_getElem?_getD, List.getD_eq_getElem?_getD, List.getD_eq_getElem?_getD, List.getElem?_take_of_lt (by omega), List.getElem?_take_of_lt h]
def szA (six : Bool) : Nat := if six = true then 16 else 4
def poD (dst : Bool) : Nat := if dst = true then 2 else 0
/-- Is an address of a family? -/
def ofB (six : Bool) (a : Ad) : Bool := a.six == six && (six || shortB a)
def newB (six : Bool) (a : Ad) : List UInt8 := a.b.take (szA six)
theorem newB_len {a : Ad} (h : a.b.length = 16) (six : Bool) : (newB six a).length = szA six := by
  unfold newB
  rw [List.length_take, h]
  unfold szA
  cases six <;> rfl
theorem of_4 {a : Ad} (h : a.b.length = 16) (ho : ofB false a = true) : a = ⟨false, newB false a ++ z12⟩ := by
  unfold ofB at ho
  simp only [Bool.and_eq_true, Bool.false_or] at ho
  exact (short_eq h).1 ho.2
theorem of_6 {a : Ad} (h : a.b.length = 16) (ho : ofB true a = true) : a = ⟨true, newB true a⟩ := by
  obtain ⟨x, b⟩ := a
  unfold ofB at ho
  simp at ho
  subst ho
  show _ = (⟨true, b.take 16⟩ : Ad)
  rw [List.take_of_length_le (by show b.length ≤ 16; have : b.length = 16 := h; omega)]
theorem of_six {six : Bool} {a : Ad} (ho : ofB six a = true) : a.six = six := by
  unfold ofB at ho
  simp only [Bool.and_eq_true, beq_iff_eq] at ho
  exact ho.1
/-- The flags that a segment tells. -/
def flN (u : Bool) (sg : List UInt8) : Nat := if u = true then 0 else batN sg 13 % 64
/-- A segment of which a port and the checksum are laid anew. -/
def segW (u : Bool) (sg : List UInt8) (s : Nat) (dst : Bool) (m : Nat) : List UInt8 := setL (setL sg (plc u) (be2 s)) (poD dst) (be2 m)
theorem segW_len (u : Bool) (sg : List UInt8) (s : Nat) (dst : Bool) (m : Nat) : (segW u sg s dst m).length = sg.length := by unfold segW; rw [setL_len, setL_len]
section
variable {u dst : Bool} {sg : List UInt8} {s m : Nat}
theorem segW_wne {i : Nat} (h : i + 1 < plc u ∨ plc u + 2 ≤ i) (h2 : i + 1 < poD dst ∨ poD dst + 2 ≤ i) : wat (segW u sg s dst m) i = wat sg i := by
  unfold segW
  rw [setL_wne (by rw [be2_len]; omega), setL_wne (by rw [be2_len]; omega)]
theorem segW_bne {i : Nat} (h : i < plc u ∨ plc u + 2 ≤ i) (h2 : i < poD dst ∨ poD dst + 2 ≤ i) : batN (segW u sg s dst m) i = batN sg i := by
  unfold segW
  rw [setL_bne (by rw [be2_len]; omega), setL_bne (by rw [be2_len]; omega)]
theorem plc_po (u dst : Bool) : poD dst + 2 ≤ 4 ∧ 6 ≤ plc u := by cases u <;> cases dst <;> decide
theorem segW_new (hf : faultB u sg = 0) (hs : s < 65536) (hm : m < 65536) :
    faultB u (segW u sg s dst m) = 0 ∧ totN_10 u (segW u sg s dst m) = totN_10 u sg ∧ wat (segW u sg s dst m) 0 = (if dst = true then wat sg 0 else m) ∧ wat (segW u sg s dst m) 2 = (if dst = true then m else wat sg 2) ∧ flN u (segW u sg s dst m) = flN u sg ∧ wat (segW u sg s dst m) (plc u) = s := by
  obtain ⟨t1, t2, t3⟩ := tot_ok hf
  obtain ⟨p1, p2⟩ := plc_po u dst
  have hk : faultB u (segW u sg s dst m) = faultB u sg ∧ totN_10 u (segW u sg s dst m) = totN_10 u sg :=
    keep_fault (segW_len _ _ _ _ _) (fun h => by subst h; exact segW_bne (by decide) (by omega)) (fun h => by subst h; exact segW_wne (by decide) (by omega))
  have h0 : wat (segW u sg s dst m) 0 = (if dst = true then wat sg 0 else m) := by
    cases dst
    · unfold segW
      exact setL_wat (p := 0) (by rw [setL_len]; omega) hm
    · exact segW_wne (by omega) (.inl (by decide))
  have h2 : wat (segW u sg s dst m) 2 = (if dst = true then m else wat sg 2) := by
    cases dst
    · exact segW_wne (by omega) (.inr (by decide))
    · unfold segW
      exact setL_wat (p := 2) (by rw [setL_len]; omega) hm
  refine ⟨hk.1.trans hf, hk.2, h0, h2, ?_, ?_⟩
  · unfold flN
    cases u
    · show batN _ 13 % 64 = batN sg 13 % 64
      rw [segW_bne (by decide) (by omega)]
    · rfl
  · unfold segW
    rw [setL_wne (by rw [be2_len]; omega), setL_wat (by omega) hs]
end
/-- The words of the pseudo header. -/
theorem pseudo_sum (six : Bool) {a b : List UInt8} (ha : a.length = 16) (p l : Nat) : ∃ R, ∀ a' : List UInt8, a'.length = 16 → wsum false (pseudoOf six a' b p l) = wsum false (a'.take (szA six)) + R ∧ wsum false (pseudoOf six a b p l) = wsum false (a.take (szA six)) + R := by
  have key : ∀ x : List UInt8, x.length = 16 → wsum false (pseudoOf six x b p l) = wsum false (x.take (szA six)) + wsum false ((pseudoOf six x b p l).drop (szA six)) := by
    intro x hx
    conv => lhs; rw [← List.take_append_drop (szA six) (pseudoOf six x b p l)]
    have e : (pseudoOf six x b p l).take (szA six) = x.take (szA six) := by
      cases six
      · show (x.take 4 ++ _).take 4 = x.take 4
        rw [List.take_append_of_le_length (by rw [List.length_take]; omega), List.take_take, Nat.min_self]
      · show (x ++ _).take 16 = x.take 16
        rw [List.take_append_of_le_length (by omega)]
    rw [e, wsum_front (by rw [List.length_take, hx]; cases six <;> decide)]
  have tail : ∀ x : List UInt8, x.length = 16 → (pseudoOf six x b p l).drop (szA six) = (pseudoOf six a b p l).drop (szA six) := by
    intro x hx
    cases six
    · show (x.take 4 ++ _).drop 4 = (a.take 4 ++ _).drop 4
      rw [List.drop_append_of_le_length (by rw [List.length_take]; omega), List.drop_append_of_le_length (by rw [List.length_take]; omega), List.drop_of_length_le (by rw [List.length_take]; omega), List.drop_of_length_le (by rw [List.length_take]; omega)]
    · show (x ++ _).drop 16 = (a ++ _).drop 16
      rw [List.drop_append_of_le_length (by omega), List.drop_append_of_le_length (by omega), List.drop_of_length_le (by omega), List.drop_of_length_le (by omega)]
  refine ⟨wsum false ((pseudoOf six a b p l).drop (szA six)), fun a' h => ⟨?_, key a ha⟩⟩
  rw [key a' h, tail a' h]
theorem pseudo_sum2 (six : Bool) {a b : List UInt8} (ha : a.length = 16) (hb : b.length = 16) (p l : Nat) : ∃ R, ∀ b' : List UInt8, b'.length = 16 → wsum false (pseudoOf six a b' p l) = wsum false (b'.take (szA six)) + R ∧ wsum false (pseudoOf six a b p l) = wsum false (b.take (szA six)) + R := by
  have key : ∀ x : List UInt8, x.length = 16 → wsum false (pseudoOf six a x p l) = wsum false (a.take (szA six)) + (wsum false (x.take (szA six)) + wsum false ((pseudoOf six a b p l).drop (2 * szA six))) := by
    intro x hx
    cases six
    · show wsum false (a.take 4 ++ (x.take 4 ++ _)) = wsum false (a.take 4) + (wsum false (x.take 4) + wsum false ((a.take 4 ++ (b.take 4 ++ _)).drop (4 + 4)))
      have l1 : (a.take 4).length = 4 := by rw [List.length_take]; omega
      have l2 : (b.take 4).length = 4 := by rw [List.length_take]; omega
      have l3 : (x.take 4).length = 4 := by rw [List.length_take]; omega
      rw [wsum_front (by rw [l1]), wsum_front (by rw [l3]), ← List.drop_drop, List.drop_append_of_le_length (by omega), List.drop_of_length_le (l := a.take 4) (by omega), List.nil_append, List.drop_append_of_le_length (by omega), List.drop_of_length_le (l := b.take 4) (by omega), List.nil_append]
    · show wsum false (a ++ (x ++ _)) = wsum false (a.take 16) + (wsum false (x.take 16) + wsum false ((a ++ (b ++ _)).drop (16 + 16)))
      rw [wsum_front (by omega), wsum_front (by omega), ← List.drop_drop, List.drop_append_of_le_length (by omega), List.drop_of_length_le (l := a) (by omega), List.nil_append, List.drop_append_of_le_length (by omega), List.drop_of_length_le (l := b) (by omega), List.nil_append, List.take_of_length_le (l := a) (by omega), List.take_of_length_le (l := x) (by omega)]
  refine ⟨wsum false (a.take (szA six)) + wsum false ((pseudoOf six a b p l).drop (2 * szA six)), fun b' h => ⟨?_, ?_⟩⟩
  · rw [key b' h]; omega
  · rw [key b hb]; omega
/-- The sum of a segment and its pseudo header, with a port and the checksum laid anew. -/
theorem segW_sum {u dst : Bool} {sg : List UInt8} {s m : Nat} (hf : faultB u sg = 0) (hs : s < 65536) (hm : m < 65536) :
    wsum false ((segW u sg s dst m).take (totN_10 u sg)) + wat sg (plc u) + wat sg (poD dst) = wsum false (sg.take (totN_10 u sg)) + s + m := by
  obtain ⟨t1, t2, t3⟩ := tot_ok hf
  obtain ⟨p1, p2⟩ := plc_po u dst
  have hl : (sg.take (totN_10 u sg)).length = totN_10 u sg := by rw [List.length_take]; omega
  unfold segW
  rw [setL_take, setL_take]
  have e1 := wsum_setL (xs := sg.take (totN_10 u sg)) (k := plc u) (ys := be2 s) (by rw [be2_len]; omega) (by cases u <;> decide) (by rw [be2_len])
  have e2 := wsum_setL (xs := setL (sg.take (totN_10 u sg)) (plc u) (be2 s)) (k := poD dst) (ys := be2 m) (by rw [be2_len, setL_len]; omega) (by cases dst <;> decide) (by rw [be2_len])
  have w1 : wat (sg.take (totN_10 u sg)) (plc u) = wat sg (plc u) := wat_take (by omega)
  have w2 : wat (sg.take (totN_10 u sg)) (poD dst) = wat sg (poD dst) := wat_take (by omega)
  rw [be2_len] at e1 e2
  rw [wsum_two _ _ (by omega), w1, wsum_be2 hs] at e1
  rw [setL_part (by rw [be2_len]; omega), wsum_two _ _ (by omega), w2, wsum_be2 hm] at e2
  omega
def oldA (t : Tu) (dst : Bool) : Ad := if dst = true then t.d else t.s
def tuN (t : Tu) (a : Ad) (m : Int) (dst : Bool) : Tu := if dst = true then ⟨t.s, a, t.pr, t.sp, m⟩ else ⟨a, t.d, t.pr, m, t.dp⟩
def pkN (p : Pk) (a : Ad) (m : Int) (dst : Bool) : Pk := ⟨p.kind, tuN p.t a m dst, p.fl, p.net, p.sg, p.en⟩
theorem tuN_ok {t : Tu} (h : t.Ok) {a : Ad} (ha : a.b.length = 16) (m : Int) (dst : Bool) : (tuN t a m dst).Ok := by
  unfold tuN
  cases dst
  · exact ⟨ha, h.d⟩
  · exact ⟨h.s, ha⟩
theorem ck_right_iff {X : Nat} (h : 0 < X) : (65535 - nrm X = 0) ↔ X % 65535 = 0 := by
  have h1 := nrm_le X
  have h2 := nrm_mod X
  have h3 : nrm X ≠ 0 := fun e => by have := nrm_eq_zero.1 e; omega
  omega
/-- A segment's checksum is right behind the rewriting just if it was ahead. -/
theorem segW_right {six u dst : Bool} {t : Tu} (ho : t.Ok) {sg : List UInt8} {a : Ad} (ha : a.b.length = 16) {m : Nat} (hf : faultB u sg = 0) (hm : m < 65536) {mi : Int} :
    rightS six (tuN t a mi dst).s.b (tuN t a mi dst).d.b u (segW u sg (numW u (wat sg (plc u)) ((oldA t dst).b.take (szA six)) (newB six a) (be2 (wat sg (poD dst))) (be2 m)) dst m) = rightS six t.s.b t.d.b u sg := by
  have hto := tuN_ok ho ha mi dst
  have hw := wat_lt sg (plc u)
  have hwp := wat_lt sg (poD dst)
  have hoa : (oldA t dst).b.length = 16 := by unfold oldA; split; exact ho.d; exact ho.s
  have hol : (newB six a).length = ((oldA t dst).b.take (szA six)).length := by rw [newB_len ha, List.length_take, hoa]; cases six <;> rfl
  obtain ⟨S, hS⟩ : ∃ S, numW u (wat sg (plc u)) ((oldA t dst).b.take (szA six)) (newB six a) (be2 (wat sg (poD dst))) (be2 m) = S := ⟨_, rfl⟩
  have hSle : S ≤ 65535 := by rw [← hS]; exact numW_le hol rfl (by omega)
  obtain ⟨n1, n2, n3, n4, n5, n6⟩ := segW_new (dst := dst) hf (s := S) (m := m) (by omega) hm
  rw [hS]
  by_cases hid : u = true ∧ wat sg 6 = 0
  · obtain ⟨rfl, hz⟩ := hid
    have hS0 : S = 0 := by rw [← hS]; exact numW_idle ⟨rfl, hz⟩
    have n6' : wat (segW true sg S dst m) 6 = S := n6
    unfold rightS
    rw [if_pos ⟨rfl, by rw [n6', hS0]⟩, if_pos ⟨rfl, hz⟩]
  · have hid' : ¬ (u = true ∧ wat (segW u sg S dst m) 6 = 0) := by
      rintro ⟨rfl, h2⟩
      have n6' : wat (segW true sg S dst m) 6 = S := n6
      have hz : wat sg 6 ≠ 0 := fun e => hid ⟨rfl, e⟩
      have : 0 < S := by rw [← hS]; exact numW_udp rfl hol (by omega) rfl hz
      omega
    unfold rightS
    rw [if_neg hid', if_neg hid]
    have hmod := numW_mod (u := u) (c := wat sg (plc u)) (old := (oldA t dst).b.take (szA six)) (new := newB six a) (oldp := be2 (wat sg (poD dst))) (newp := be2 m) hol rfl (by omega) (fun hx => hid ⟨hx.1, by have := hx.1; subst this; exact hx.2⟩)
    rw [hS, wsum_be2 (n := wat sg (poD dst)) (by omega), wsum_be2 hm] at hmod
    have hsum := segW_sum (dst := dst) hf (s := S) (m := m) (by omega) hm
    unfold ckS segP
    rw [n2]
    have pos : ∀ (x y zs : List UInt8), 0 < wsum false (pseudoOf six x y (prN u) (totN_10 u sg) ++ zs) := fun x y zs => pseudo_pos six x y _ _ (prN_pos u) (prN_lt u) zs false
    have p1 := pos (tuN t a mi dst).s.b (tuN t a mi dst).d.b ((segW u sg S dst m).take (totN_10 u sg))
    have p2 := pos t.s.b t.d.b (sg.take (totN_10 u sg))
    have e1 := wsum_front (xs := pseudoOf six (tuN t a mi dst).s.b (tuN t a mi dst).d.b (prN u) (totN_10 u sg)) (pseudo_even six _ _ hto.s hto.d _ _).1 ((segW u sg S dst m).take (totN_10 u sg))
    have e2 := wsum_front (xs := pseudoOf six t.s.b t.d.b (prN u) (totN_10 u sg)) (pseudo_even six _ _ ho.s ho.d _ _).1 (sg.take (totN_10 u sg))
    have e3 : ∃ R, wsum false (pseudoOf six (tuN t a mi dst).s.b (tuN t a mi dst).d.b (prN u) (totN_10 u sg)) = wsum false (newB six a) + R ∧ wsum false (pseudoOf six t.s.b t.d.b (prN u) (totN_10 u sg)) = wsum false ((oldA t dst).b.take (szA six)) + R := by
      cases dst
      · obtain ⟨R, hR⟩ := pseudo_sum six (a := t.s.b) (b := t.d.b) ho.s (prN u) (totN_10 u sg)
        exact ⟨R, hR a.b ha⟩
      · obtain ⟨R, hR⟩ := pseudo_sum2 six ho.s ho.d (prN u) (totN_10 u sg)
        exact ⟨R, hR a.b ha⟩
    obtain ⟨R, r1, r2⟩ := e3
    unfold ckOf rsumOf
    have q1 := ck_right_iff p1
    have q2 := ck_right_iff p2
    refine decide_eq_decide.2 ?_
    rw [q1, q2, e1, e2, r1, r2]
    omega
end Go.Proofs.Ytkmcopenflakkaa
