/-
  A frame that is cut off, and one with other bytes behind its IP packet: plain mathematics.
-/
import Derived.Test.YtomkfcpellcncaaKMake
namespace Go.Proofs.Ytomkfcpellcncaa
open Go.RowKit Go.Lib
section
variable {xs ys : List UInt8} {T : Nat}
theorem get_agr (h : ys.take T = xs.take T) {i : Nat} (hi : i < T) : ys[i]? = xs[i]? := by
  rw [← List.getElem?_take_of_lt hi, h, List.getElem?_take_of_lt hi]
theorem bat_agr (h : ys.take T = xs.take T) {i : Nat} (hi : i < T) : batN ys i = batN xs i := by
  unfold batN
  rw [List.getD_eq_getElem?_getD, List.getD_eq_getElem?_getD, get_agr h hi]
theorem wat_agr (h : ys.take T = xs.take T) {i : Nat} (hi : i + 1 < T) : wat ys i = wat xs i := by
  unfold wat
  rw [bat_agr h (by omega), bat_agr h hi]
theorem take_agr (h : ys.take T = xs.take T) {k : Nat} (hk : k ≤ T) : ys.take k = xs.take k := by
  have := congrArg (List.take k) h
  rwa [List.take_take, List.take_take, Nat.min_eq_left hk] at this
theorem part_agr (h : ys.take T = xs.take T) {p k : Nat} (hk : p + k ≤ T) : (ys.drop p).take k = (xs.drop p).take k := by
  rw [List.take_drop, List.take_drop, take_agr h hk]
theorem ihl_agr (h : ys.take T = xs.take T) (hT : 0 < T) : ihl ys = ihl xs := by unfold ihl; rw [bat_agr h hT]
theorem nt4_agr (hf : faultN xs = 0) (h : ys.take (wat xs 2) = xs.take (wat xs 2)) (hl : wat xs 2 ≤ ys.length) : nt4 ys = nt4 xs := by
  obtain ⟨p1, p2, p3⟩ := fault_parts hf
  have hz := fault_zero hf
  have e0 : batN ys 0 = batN xs 0 := bat_agr h (by omega)
  have ei : ihl ys = ihl xs := ihl_agr h (by omega)
  have e2 : wat ys 2 = wat xs 2 := wat_agr h (by omega)
  have hv : batN xs 0 / 16 = 4 := by
    by_cases hv : batN xs 0 / 16 = 4
    · exact hv
    · rw [fault_form hz.1 (.inl hv)] at hf; cases hf
  have hf' : faultN ys = 0 := fault_no (by omega) (by rw [e0]; exact hv) (by rw [ei]; exact p1) (by rw [ei]; omega) (by rw [ei, e2]; exact p2) (by rw [e2]; exact hl) (by rw [ei, take_agr h p2]; exact hz.2)
  unfold nt4
  rw [if_pos hf, if_pos hf', ei, e2, wat_agr h (i := 6) (by omega), bat_agr h (i := 9) (by omega)]
  unfold adOf
  rw [part_agr h (p := 12) (k := 4) (by omega), part_agr h (p := 16) (k := 4) (by omega)]
theorem nt4_cut (hf : faultN xs = 0) {j : Nat} (hj : j < wat xs 2) : (nt4 (xs.take j)).e ≠ 0 := by
  obtain ⟨p1, p2, p3⟩ := fault_parts hf
  have hz := fault_zero hf
  have hl : (xs.take j).length = j := by rw [List.length_take]; omega
  have h : (xs.take j).take j = xs.take j := by rw [List.take_take, Nat.min_self]
  rw [nt4_e]
  by_cases h20 : j < 20
  · rw [fault_short (by omega)]; decide
  · have e0 : batN (xs.take j) 0 = batN xs 0 := bat_agr h (by omega)
    have ei : ihl (xs.take j) = ihl xs := ihl_agr h (by omega)
    have e2 : wat (xs.take j) 2 = wat xs 2 := wat_agr h (by omega)
    have hv : batN xs 0 / 16 = 4 := by
      by_cases hv : batN xs 0 / 16 = 4
      · exact hv
      · rw [fault_form hz.1 (.inl hv)] at hf; cases hf
    by_cases hi : j < ihl xs
    · rw [fault_head (by omega) (by rw [e0]; exact hv) (by rw [ei]; exact p1) (by rw [ei, hl]; exact hi)]; decide
    · rw [fault_more (by omega) (by rw [e0]; exact hv) (by rw [ei]; exact p1) (by rw [ei, hl]; omega) (by rw [ei, e2]; exact p2) (by rw [e2, hl]; exact hj)]; decide
theorem walkN_agr (h : ys.take T = xs.take T) : ∀ (n : Nat) (k : Wk), k.Fit T → (walkN xs T n k).1 = 0 → walkN ys T n k = walkN xs T n k
  | 0, _, _, _ => rfl
  | n + 1, k, hk, h0 => by
    unfold walkN at h0 ⊢
    by_cases hg : goB k = true
    · rw [if_pos hg] at h0
      rw [if_pos hg, if_pos hg]
      by_cases hs : stepF xs T k = 0
      · rw [if_pos hs] at h0
        have h8 : ¬ T - k.head < 8 := by
          intro hlt
          unfold stepF at hs
          split at hs
          · cases hs
          · first
              | cases hs
              | (rw [if_pos hlt] at hs; cases hs)
        have h1 := hk.h1
        have b1 : batN ys (k.head + 1) = batN xs (k.head + 1) := bat_agr h (by omega)
        have hs' : stepF ys T k = 0 := by unfold stepF at hs ⊢; rw [b1]; exact hs
        have hk' : stepK ys k = stepK xs k := by unfold stepK; rw [b1, bat_agr h (i := k.head) (by omega), wat_agr h (i := k.head + 2) (by omega)]
        rw [if_pos hs, if_pos hs', hk']
        exact walkN_agr h n _ (stepK_fit hk hs) h0
      · rw [if_neg hs] at h0
        exact absurd h0 hs
    · rw [if_neg hg, if_neg hg]
theorem nt6_agr (hr : rdN xs = 0) (h : ys.take (totN_9 xs) = xs.take (totN_9 xs)) (hl : totN_9 xs ≤ ys.length) : nt6 ys = nt6 xs := by
  have hf : faultN_9 xs = 0 := by
    by_cases hf : faultN_9 xs = 0
    · exact hf
    · rw [rdN_bad hf] at hr; exact absurd hr hf
  obtain ⟨q1, q2, q3⟩ := fault_zero_9 hf
  have hT : 40 ≤ totN_9 xs := by unfold totN_9; omega
  have e0 : batN ys 0 = batN xs 0 := bat_agr h (by omega)
  have et : totN_9 ys = totN_9 xs := by
    show 40 + wat ys 4 = 40 + wat xs 4
    rw [wat_agr h (by omega)]
  have hf' : faultN_9 ys = 0 := fault_no_9 (by omega) (by rw [e0]; exact q2) (by rw [et]; exact hl)
  have ew : wk0 ys = wk0 xs := by unfold wk0; rw [bat_agr h (i := 6) (by omega)]
  rw [rdN_walk hf] at hr
  have ea : walkOf ys (totN_9 ys) (wk0 ys) = walkOf xs (totN_9 xs) (wk0 xs) := by
    rw [et, ew]
    exact walkN_agr h _ _ (wk0_fit hT) hr
  have hr' : rdN ys = 0 := by rw [rdN_walk hf', ea]; exact hr
  have hr0 : rdN xs = 0 := by rw [rdN_walk hf]; exact hr
  unfold nt6 wkOf
  rw [if_pos hr0, if_pos hr', ea, et]
  unfold adOf_9 ad16
  rw [part_agr h (p := 8) (k := 16) (by omega), part_agr h (p := 24) (k := 16) (by omega)]
theorem nt6_cut (hr : rdN xs = 0) {j : Nat} (hj : j < totN_9 xs) : (nt6 (xs.take j)).e ≠ 0 := by
  have hf : faultN_9 xs = 0 := by
    by_cases hf : faultN_9 xs = 0
    · exact hf
    · rw [rdN_bad hf] at hr; exact absurd hr hf
  obtain ⟨q1, q2, q3⟩ := fault_zero_9 hf
  have hl : (xs.take j).length = j := by rw [List.length_take]; omega
  have h : (xs.take j).take j = xs.take j := by rw [List.take_take, Nat.min_self]
  rw [nt6_e]
  have h2 : faultN_9 (xs.take j) = 2 := by
    by_cases h40 : j < 40
    · exact fault_short_9 (by omega)
    · have et : totN_9 (xs.take j) = totN_9 xs := by
        show 40 + wat (xs.take j) 4 = 40 + wat xs 4
        rw [wat_agr h (by omega)]
      exact fault_more_9 (by omega) (by rw [bat_agr h (by omega)]; exact q2) (by rw [et, hl]; exact hj)
  rw [rdN_bad (by rw [h2]; decide), h2]
  decide
theorem rd_agr (h0 : (rdOf xs).2 = 0) (h : ys.take (atK xs) = xs.take (atK xs)) : rdOf ys = rdOf xs := by
  have e : rdOf xs = ((rdOf xs).1, 0) := by rw [← h0]
  obtain ⟨h6, hr, m, h1, h2, h3, h4, hk⟩ := rdOf_only e
  have hm : atK xs = m := by unfold atK; rw [h1]; rfl
  rw [hm] at h
  have b1 := rdOf_back h6 hr (ys.drop m)
  have b2 := rdOf_back h6 hr (xs.drop m)
  rw [hk, ← h, List.take_append_drop] at b1
  rw [hk, List.take_append_drop] at b2
  rw [b1, b2]
theorem rd_cut (h0 : (rdOf xs).2 = 0) {j : Nat} (hj : j < atK xs) : (rdOf (xs.take j)).2 ≠ 0 := by
  have e : rdOf xs = ((rdOf xs).1, 0) := by rw [← h0]
  obtain ⟨h6, hr, m, h1, h2, h3, h4, hk⟩ := rdOf_only e
  have hm : atK xs = m := by unfold atK; rw [h1]; rfl
  rw [hm] at hj
  have hl := lkB_len h6
  rw [hk, List.length_take] at hl
  have hc := rdOf_cut h6 hr j (by omega)
  rw [hk, List.take_take, Nat.min_eq_left (by omega)] at hc
  rw [hc]
  decide
end
theorem behind_fine {p : Nat} {rest : List UInt8} {n : Nt} (h : (behind p rest n).kind = 0) : n.e = 0 ∧ (behind p rest n).en = ((p + n.total : Nat) : Int) := by
  unfold behind at h ⊢
  split at h
  · cases h
  · rename_i h1
    split at h
    · cases h
    · split at h
      · cases h
      · split at h
        · cases h
        · rename_i h2 h3 h4
          rw [if_neg h1, if_neg h2, if_neg h3, if_neg h4]
          exact ⟨by omega, rfl⟩
theorem behind_seg {p : Nat} {rest rest' : List UInt8} {n : Nt} (h : segN rest' n = segN rest n) : behind p rest' n = behind p rest n := by unfold behind; rw [h]
theorem seg_agr {rest rest' : List UInt8} {n : Nt} (h1 : n.head ≤ n.total) (h : rest'.take n.total = rest.take n.total) : segN rest' n = segN rest n := by
  unfold segN
  exact part_agr h (by omega)
/-- What is told of a fine frame: its IP packet, by either family. -/
theorem fine_parts {xs : List UInt8} (h : (readK xs).kind = 0) : (rdOf xs).2 = 0 ∧ ∃ n : Nt, n.e = 0 ∧ n.Fits (xs.drop (atK xs)).length ∧ readK xs = behind (atK xs) (xs.drop (atK xs)) n ∧ (readK xs).en = ((atK xs + n.total : Nat) : Int) ∧
    (∀ ys : List UInt8, rdOf ys = rdOf xs → (ys.drop (atK xs)).take n.total = (xs.drop (atK xs)).take n.total → n.total ≤ (ys.drop (atK xs)).length → readK ys = readK xs) ∧
    (∀ ys : List UInt8, rdOf ys = rdOf xs → (∃ j, j < n.total ∧ ys.drop (atK xs) = (xs.drop (atK xs)).take j) → (readK ys).kind = 3) := by
  by_cases h0 : (rdOf xs).2 = 0
  · refine ⟨h0, ?_⟩
    obtain ⟨p, hp⟩ : ∃ p, atK xs = p := ⟨_, rfl⟩
    by_cases h4 : (rdOf xs).1.ty = 2048
    · have hk : readK xs = behind p (xs.drop p) (nt4 (xs.drop p)) := by rw [← hp]; exact readK_4 h0 h4
      rw [hp, hk]
      rw [hk] at h
      obtain ⟨he, hen⟩ := behind_fine h
      have hf : faultN (xs.drop p) = 0 := (nt4_e _).symm.trans he
      have ht : (nt4 (xs.drop p)).total = wat (xs.drop p) 2 := by unfold nt4; rw [if_pos hf]
      refine ⟨_, he, nt4_fits _, rfl, hen, fun ys hy1 hy2 hy3 => ?_, fun ys hy1 ⟨j, hj, hy2⟩ => ?_⟩
      · have hay : atK ys = p := by rw [← hp]; unfold atK; rw [hy1]
        rw [readK_4 (by rw [hy1]; exact h0) (by rw [hy1]; exact h4), hay]
        rw [ht] at hy3
        have ha := nt4_agr hf (by rw [← ht]; exact hy2) hy3
        rw [ha]
        exact behind_seg (seg_agr (nt4_fits _).h1 hy2)
      · have hay : atK ys = p := by rw [← hp]; unfold atK; rw [hy1]
        rw [readK_4 (by rw [hy1]; exact h0) (by rw [hy1]; exact h4), hay, hy2]
        rw [ht] at hj
        rw [behind_3 (nt4_cut hf hj)]
        rfl
    · by_cases h6 : (rdOf xs).1.ty = 34525
      · have hk : readK xs = behind p (xs.drop p) (nt6 (xs.drop p)) := by rw [← hp]; exact readK_6 h0 h6
        rw [hp, hk]
        rw [hk] at h
        obtain ⟨he, hen⟩ := behind_fine h
        have hf : rdN (xs.drop p) = 0 := (nt6_e _).symm.trans he
        have ht : (nt6 (xs.drop p)).total = totN_9 (xs.drop p) := by unfold nt6; rw [if_pos hf]
        refine ⟨_, he, nt6_fits _, rfl, hen, fun ys hy1 hy2 hy3 => ?_, fun ys hy1 ⟨j, hj, hy2⟩ => ?_⟩
        · have hay : atK ys = p := by rw [← hp]; unfold atK; rw [hy1]
          rw [readK_6 (by rw [hy1]; exact h0) (by rw [hy1]; exact h6), hay]
          rw [ht] at hy3
          have ha := nt6_agr hf (by rw [← ht]; exact hy2) hy3
          rw [ha]
          exact behind_seg (seg_agr (nt6_fits _).h1 hy2)
        · have hay : atK ys = p := by rw [← hp]; unfold atK; rw [hy1]
          rw [readK_6 (by rw [hy1]; exact h0) (by rw [hy1]; exact h6), hay, hy2]
          rw [ht] at hj
          rw [behind_3 (nt6_cut hf hj)]
          rfl
      · have hk : readK xs = kindK 2 := by unfold readK; rw [if_neg (by omega), if_neg h4, if_neg h6]
        rw [hk] at h
        cases h
  · have hk : readK xs = kindK 1 := if_pos h0
    rw [hk] at h
    cases h
/-- A fine frame with other bytes behind its IP packet is as it was; cut off within it, it is Runt or BadNet. -/
theorem cut_same {xs : List UInt8} (h : (readK xs).kind = 0) : ∃ E : Nat, (readK xs).en = (E : Int) ∧ 1 ≤ E ∧ E ≤ xs.length ∧ (∀ more, readK (xs.take E ++ more) = readK xs) ∧ ∀ j, j < E → (readK (xs.take j)).kind = 1 ∨ (readK (xs.take j)).kind = 3 := by
  obtain ⟨h0, n, he, hfit, _, hen, hsame, hcut⟩ := fine_parts h
  obtain ⟨_, a2, a3, _, _⟩ := atK_ok h0
  have hl := hfit.h2
  rw [List.length_drop] at hl
  have hEl : atK xs + n.total ≤ xs.length := by omega
  refine ⟨atK xs + n.total, hen, by omega, hEl, fun more => ?_, fun j hj => ?_⟩
  · have ht : (xs.take (atK xs + n.total) ++ more).take (atK xs + n.total) = xs.take (atK xs + n.total) := by
      rw [List.take_append_of_le_length (by rw [List.length_take]; omega), List.take_take, Nat.min_self]
    refine hsame _ (rd_agr h0 (take_agr ht (by omega))) (part_agr ht (Nat.le_refl _)) ?_
    rw [List.length_drop, List.length_append, List.length_take]
    omega
  · by_cases hjp : j < atK xs
    · exact .inl (by unfold readK; rw [if_pos (rd_cut h0 hjp)]; rfl)
    · refine .inr (hcut _ (rd_agr h0 ?_) ⟨j - atK xs, by omega, ?_⟩)
      · rw [List.take_take, Nat.min_eq_left (by omega)]
      · rw [List.drop_take]
theorem kind_vals (xs : List UInt8) : 0 ≤ (readK xs).kind ∧ (readK xs).kind ≤ 6 := by
  have hb : ∀ p rest n, 0 ≤ (behind p rest n).kind ∧ (behind p rest n).kind ≤ 6 := by
    intro p rest n
    unfold behind
    repeat' split
    all_goals exact ⟨by simp [kindK], by simp [kindK]⟩
  unfold readK
  split
  · exact ⟨by decide, by decide⟩
  · split
    · exact hb _ _ _
    · split
      · exact hb _ _ _
      · exact ⟨by decide, by decide⟩
end Go.Proofs.Ytomkfcpellcncaa
