/-
  Plain mathematics of stage 18: backends, pools, what is done to them. No program is walked here.
-/
import Derived.Test.YtajmppaodhpmgaaLess
import Derived.Test.YtajmppaodhpmgaaNmB
import Derived.Test.YtajmppaodhpmgaaWO
namespace Go.Proofs.Ytajmppaodhpmgaa
open Go.RowKit Go.Lib

/-- A backend. -/
structure Bk where
  nm : List UInt8
  ad : Ad
  port : Int
  mac : List UInt8
  wt : Nat
  dr : Bool
  hb : ad.b.length = 16
  hm : mac.length = 6
  hw : wt < T64
/-- Right, but that its weight may be -0. -/
def fairB (b : Bk) : Bool := nameB b.nm && (b.ad.six || shortB b.ad) && decide (1 ≤ b.port ∧ b.port ≤ 65535) && wtW b.wt
def rightBk (b : Bk) : Bool := fairB b && !ngW b.wt
theorem plain_lt {u : Nat} (h : u < T64) : plainW u < T64 := by
  unfold plainW
  split
  · decide
  · exact h
theorem plain_right {u : Nat} (_h : u < T64) (hw : wtW u = true) : wtW (plainW u) = true ∧ ngW (plainW u) = false := by
  unfold plainW
  split
  · exact ⟨by decide, by decide⟩
  · rename_i h0
    refine ⟨hw, ?_⟩
    unfold wtW at hw
    rw [decide_eq_false h0] at hw
    simp at hw
    exact hw.1
/-- A weight that is right and has no sign is plain already. -/
theorem plain_id {u : Nat} (h : u < T64) (hn : ngW u = false) : plainW u = u := by
  unfold plainW
  split
  · rename_i h0
    have h1 := word_of h
    rw [hn, h0] at h1
    rw [h1]
    rfl
  · rfl
def Bk.plain (b : Bk) : Bk := { b with wt := plainW b.wt, hw := plain_lt b.hw }
theorem Bk.plain_nm (b : Bk) : b.plain.nm = b.nm := rfl
theorem fair_plain {b : Bk} (h : fairB b = true) : rightBk b.plain = true := by
  unfold fairB at h
  simp only [Bool.and_eq_true] at h
  obtain ⟨⟨⟨h1, h2⟩, h3⟩, h4⟩ := h
  obtain ⟨h5, h6⟩ := plain_right b.hw h4
  unfold rightBk fairB
  simp only [Bool.and_eq_true, Bool.not_eq_true']
  exact ⟨⟨⟨⟨h1, h2⟩, h3⟩, h5⟩, h6⟩
theorem right_fair {b : Bk} (h : rightBk b = true) : fairB b = true := by
  unfold rightBk at h
  simp only [Bool.and_eq_true] at h
  exact h.1
/-- Rising by names. -/
def RiseB (l : List Bk) : Prop := l.Pairwise fun a b => Op.bytesLess a.nm b.nm = true
structure Pl where
  ver : Int
  l : List Bk
structure RightP (p : Pl) : Prop where
  low : 0 ≤ p.ver
  top : p.ver ≤ 1099511627776
  few : p.l.length ≤ 1024
  each : ∀ b, b ∈ p.l → rightBk b = true
  rise : RiseB p.l
def insB (x : Bk) : List Bk → List Bk
  | [] => [x]
  | y :: l => if Op.bytesLess x.nm y.nm = true then x :: y :: l else y :: insB x l
theorem insB_perm (x : Bk) : ∀ l, (insB x l).Perm (x :: l)
  | [] => List.Perm.refl _
  | y :: l => by
    unfold insB
    split
    · exact List.Perm.refl _
    · exact ((insB_perm x l).cons y).trans (List.Perm.swap x y l)
theorem insB_mem {x y : Bk} {l : List Bk} : y ∈ insB x l ↔ y = x ∨ y ∈ l := by
  rw [(insB_perm x l).mem_iff, List.mem_cons]
theorem insB_len (x : Bk) (l : List Bk) : (insB x l).length = l.length + 1 := (insB_perm x l).length_eq
theorem insB_rise {x : Bk} : ∀ {l : List Bk}, RiseB l → (∀ y, y ∈ l → y.nm ≠ x.nm) → RiseB (insB x l)
  | [], _, _ => List.pairwise_singleton _ _
  | y :: l, h, hn => by
    unfold insB
    obtain ⟨h1, h2⟩ := List.pairwise_cons.1 h
    split
    · rename_i hl
      refine List.pairwise_cons.2 ⟨fun z hz => ?_, h⟩
      rcases List.mem_cons.1 hz with rfl | hz
      · exact hl
      · exact less_trans hl (h1 z hz)
    · rename_i hl
      refine List.pairwise_cons.2 ⟨fun z hz => ?_, insB_rise h2 (fun z hz => hn z (List.mem_cons_of_mem _ hz))⟩
      rcases insB_mem.1 hz with rfl | hz
      · exact less_other (Bool.eq_false_iff.2 hl) (fun e => hn y (List.mem_cons_self ..) e.symm)
      · exact h1 z hz
theorem rise_filter {l : List Bk} (h : RiseB l) (q : Bk → Bool) : RiseB (l.filter q) := List.Pairwise.filter q h
theorem rise_map {l : List Bk} (h : RiseB l) {f : Bk → Bk} (hf : ∀ b, (f b).nm = b.nm) : RiseB (l.map f) :=
  List.pairwise_map.2 (List.Pairwise.imp (fun {a b} hab => by rw [hf a, hf b]; exact hab) h)
/-- Names are apart in what rises. -/
theorem rise_one : ∀ {l : List Bk}, RiseB l → ∀ {a b : Bk}, a ∈ l → b ∈ l → a.nm = b.nm → a = b
  | [], _, _, _, h, _, _ => by cases h
  | y :: l, h, a, b, ha, hb, he => by
    obtain ⟨h1, h2⟩ := List.pairwise_cons.1 h
    rcases List.mem_cons.1 ha with ea | ha <;> rcases List.mem_cons.1 hb with eb | hb
    · rw [ea, eb]
    · have h3 := h1 b hb
      rw [← ea, he, less_irr] at h3
      cases h3
    · have h3 := h1 a ha
      rw [← eb, he, less_irr] at h3
      cases h3
    · exact rise_one h2 ha hb he
/-- The backend of a name. -/
def findB (l : List Bk) (s : List UInt8) : Option Bk := l.find? fun b => decide (b.nm = s)
theorem find_some {l : List Bk} {s : List UInt8} {b : Bk} (h : findB l s = some b) : b ∈ l ∧ b.nm = s := by
  unfold findB at h
  have h2 : decide (b.nm = s) = true := List.find?_some (p := fun b : Bk => decide (b.nm = s)) h
  exact ⟨List.mem_of_find?_eq_some h, of_decide_eq_true h2⟩
theorem find_none {l : List Bk} {s : List UInt8} (h : findB l s = none) : ∀ b, b ∈ l → b.nm ≠ s := by
  unfold findB at h
  intro b hb e
  exact absurd (List.find?_eq_none.1 h b hb) (by rw [decide_eq_true e]; simp)
theorem find_of {l : List Bk} (hr : RiseB l) {b : Bk} (hb : b ∈ l) : findB l b.nm = some b := by
  cases h : findB l b.nm with
  | none => exact absurd rfl (find_none h b hb)
  | some c =>
    obtain ⟨h1, h2⟩ := find_some h
    rw [rise_one hr h1 hb h2]
theorem find_no {l : List Bk} {s : List UInt8} (h : ∀ b, b ∈ l → b.nm ≠ s) : findB l s = none := by
  unfold findB
  refine List.find?_eq_none.2 fun b hb => ?_
  rw [decide_eq_false (h b hb)]
  simp
/-- What is done. -/
structure OpU where
  kind : Int
  b : Bk
  nm : List UInt8
  wt : Nat
  hw : wt < T64
def OpU.set (o : OpU) (x : Bk) : Bk := if o.kind = 3 then { x with wt := plainW o.wt, hw := plain_lt o.hw } else { x with dr := decide (o.kind = 4) }
theorem OpU.set_nm (o : OpU) (x : Bk) : (o.set x).nm = x.nm := by
  unfold OpU.set
  split <;> rfl
def OpU.at_ (o : OpU) (x : Bk) : Bk := if x.nm = o.nm then o.set x else x
theorem OpU.at_nm (o : OpU) (x : Bk) : (o.at_ x).nm = x.nm := by
  unfold OpU.at_
  split
  · exact o.set_nm x
  · rfl
/-- The backends behind it, as far as it is done. -/
def OpU.list (o : OpU) (l : List Bk) : List Bk :=
  if o.kind = 1 then insB o.b.plain l else if o.kind = 2 then l.filter (fun x => decide (x.nm ≠ o.nm)) else l.map o.at_
/-- Why it isn't done: the error's number, or 0. -/
def OpU.err (o : OpU) (p : Pl) : Int :=
  if o.kind = 1 then
    if fairB o.b = false then 1 else if (findB p.l o.b.nm).isSome then 6 else if 1024 ≤ p.l.length ∨ 1099511627776 ≤ p.ver then 7 else 0
  else if o.kind < 1 ∨ 5 < o.kind ∨ o.kind = 3 ∧ wtW o.wt = false then 1
  else match findB p.l o.nm with
    | none => 5
    | some b => if o.kind = 4 ∧ b.dr = true ∨ o.kind = 5 ∧ b.dr = false then 6 else if 1099511627776 ≤ p.ver then 7 else 0
def doP (p : Pl) (o : OpU) : Pl := if o.err p = 0 then ⟨p.ver + 1, o.list p.l⟩ else p
theorem do_yes {p : Pl} {o : OpU} (h : o.err p = 0) : doP p o = ⟨p.ver + 1, o.list p.l⟩ := if_pos h
theorem do_no {p : Pl} {o : OpU} (h : o.err p ≠ 0) : doP p o = p := if_neg h
/-- What is asked for an addition. -/
theorem err_add {p : Pl} {o : OpU} (hk : o.kind = 1) (h : o.err p = 0) : fairB o.b = true ∧ findB p.l o.b.nm = none ∧ p.l.length < 1024 ∧ p.ver < 1099511627776 := by
  unfold OpU.err at h
  rw [if_pos hk] at h
  split at h
  · cases h
  · rename_i h1
    split at h
    · cases h
    · rename_i h2
      split at h
      · cases h
      · rename_i h3
        refine ⟨by cases hf : fairB o.b with | true => rfl | false => exact absurd hf h1, by cases hf : findB p.l o.b.nm with | none => rfl | some b => rw [hf] at h2; exact absurd rfl h2, by omega, by omega⟩
/-- What is asked for any other one. -/
theorem err_else {p : Pl} {o : OpU} (hk : o.kind ≠ 1) (h : o.err p = 0) : 2 ≤ o.kind ∧ o.kind ≤ 5 ∧ (o.kind = 3 → wtW o.wt = true) ∧ p.ver < 1099511627776 ∧ ∃ b, findB p.l o.nm = some b ∧ (o.kind = 4 → b.dr = false) ∧ (o.kind = 5 → b.dr = true) := by
  unfold OpU.err at h
  rw [if_neg hk] at h
  split at h
  · cases h
  · rename_i h1
    cases hf : findB p.l o.nm with
    | none =>
      rw [hf] at h
      cases h
    | some b =>
      rw [hf] at h
      simp only at h
      split at h
      · cases h
      · rename_i h2
        split at h
        · cases h
        · rename_i h3
          refine ⟨by omega, by omega, fun h4 => ?_, by omega, b, rfl, fun h4 => ?_, fun h4 => ?_⟩
          · cases hw : wtW o.wt with
            | true => rfl
            | false => exact absurd (.inr (.inr ⟨h4, hw⟩)) h1
          · cases hd : b.dr with
            | false => rfl
            | true => exact absurd (.inl ⟨h4, hd⟩) h2
          · cases hd : b.dr with
            | true => rfl
            | false => exact absurd (.inr ⟨h4, hd⟩) h2
theorem set_right {o : OpU} (hw : o.kind = 3 → wtW o.wt = true) {x : Bk} (h : rightBk x = true) : rightBk (o.set x) = true := by
  unfold OpU.set
  by_cases hk : o.kind = 3
  · rw [if_pos hk]
    obtain ⟨h1, h2⟩ := plain_right o.hw (hw hk)
    unfold rightBk fairB at h ⊢
    simp only [Bool.and_eq_true, Bool.not_eq_true'] at h ⊢
    exact ⟨⟨h.1.1, h1⟩, h2⟩
  · rw [if_neg hk]
    exact h
/-- Behind whatever is done a right pool is right. -/
theorem do_right {p : Pl} (hp : RightP p) (o : OpU) : RightP (doP p o) := by
  by_cases he : o.err p = 0
  · rw [do_yes he]
    by_cases hk : o.kind = 1
    · obtain ⟨h1, h2, h3, h4⟩ := err_add hk he
      have hl : o.list p.l = insB o.b.plain p.l := if_pos hk
      refine ⟨by have := hp.low; show 0 ≤ p.ver + 1; omega, by show p.ver + 1 ≤ _; omega, ?_, ?_, ?_⟩
      · show (o.list p.l).length ≤ 1024
        rw [hl, insB_len]
        omega
      · intro b hb
        have hb2 : b ∈ insB o.b.plain p.l := by rw [← hl]; exact hb
        rcases insB_mem.1 hb2 with rfl | hb3
        · exact fair_plain h1
        · exact hp.each b hb3
      · show RiseB (o.list p.l)
        rw [hl]
        exact insB_rise hp.rise (find_none h2)
    · obtain ⟨h1, h2, h3, h4, b, hb, _, _⟩ := err_else hk he
      refine ⟨by have := hp.low; show 0 ≤ p.ver + 1; omega, by show p.ver + 1 ≤ _; omega, ?_, ?_, ?_⟩
      · show (o.list p.l).length ≤ 1024
        unfold OpU.list
        rw [if_neg hk]
        split
        · exact Nat.le_trans (List.length_filter_le _ _) hp.few
        · rw [List.length_map]
          exact hp.few
      · intro x hx
        have hx2 : x ∈ o.list p.l := hx
        unfold OpU.list at hx2
        rw [if_neg hk] at hx2
        split at hx2
        · exact hp.each x (List.mem_filter.1 hx2).1
        · obtain ⟨y, hy, rfl⟩ := List.mem_map.1 hx2
          unfold OpU.at_
          split
          · exact set_right h3 (hp.each y hy)
          · exact hp.each y hy
      · show RiseB (o.list p.l)
        unfold OpU.list
        rw [if_neg hk]
        split
        · exact rise_filter hp.rise _
        · exact rise_map hp.rise o.at_nm
  · rw [do_no he]
    exact hp
/-- The name that it speaks of. -/
def OpU.name (o : OpU) : List UInt8 := if o.kind = 1 then o.b.nm else o.nm
/-- What is done to one backend leaves all others as they were. -/
theorem list_other {p : Pl} {o : OpU} {x : Bk} (hn : x.nm ≠ o.name) : x ∈ o.list p.l ↔ x ∈ p.l := by
  unfold OpU.name at hn
  unfold OpU.list
  by_cases hk : o.kind = 1
  · rw [if_pos hk] at hn ⊢
    rw [insB_mem]
    refine ⟨fun h => ?_, .inr⟩
    rcases h with h | h
    · exact absurd (by rw [h]; rfl) hn
    · exact h
  · rw [if_neg hk] at hn ⊢
    split
    · rw [List.mem_filter]
      exact ⟨fun h => h.1, fun h => ⟨h, decide_eq_true hn⟩⟩
    · rw [List.mem_map]
      refine ⟨fun ⟨y, hy, e⟩ => ?_, fun h => ⟨x, h, ?_⟩⟩
      · have h1 : y.nm = x.nm := by rw [← e]; exact (o.at_nm y).symm
        have h2 : o.at_ y = y := by unfold OpU.at_; rw [if_neg (by rw [h1]; exact hn)]
        rw [h2] at e
        rw [← e]
        exact hy
      · unfold OpU.at_
        rw [if_neg hn]
theorem do_other {p : Pl} (hp : RightP p) {o : OpU} {s : List UInt8} (hn : s ≠ o.name) : findB (doP p o).l s = findB p.l s := by
  by_cases he : o.err p = 0
  · have hr := (do_right hp o).rise
    rw [do_yes he] at hr ⊢
    cases h : findB p.l s with
    | none =>
      refine find_no fun b hb e => ?_
      exact find_none h b ((list_other (by rw [e]; exact hn)).1 hb) e
    | some b =>
      obtain ⟨h1, h2⟩ := find_some h
      have h3 := (list_other (x := b) (by rw [h2]; exact hn)).2 h1
      have h4 := find_of hr h3
      rw [h2] at h4
      exact h4
  · rw [do_no he]
theorem less_one : ∀ {l : List Bk}, RiseB l → ∀ {b : Bk}, b ∈ l → (l.filter (fun x => decide (x.nm ≠ b.nm))).length + 1 = l.length
  | [], _, _, h => by cases h
  | y :: l, h, b, hb => by
    obtain ⟨h1, h2⟩ := List.pairwise_cons.1 h
    rcases List.mem_cons.1 hb with rfl | hb
    · have e : l.filter (fun x => decide (x.nm ≠ b.nm)) = l := List.filter_eq_self.2 fun z hz => decide_eq_true fun e => by
        have h3 := h1 z hz
        rw [e, less_irr] at h3
        cases h3
      rw [List.filter_cons_of_neg (by simp), e]
      rfl
    · have hy : y.nm ≠ b.nm := fun e => by
        have h3 := h1 b hb
        rw [e, less_irr] at h3
        cases h3
      rw [List.filter_cons_of_pos (by exact decide_eq_true hy)]
      have ih := less_one h2 hb
      simp only [List.length_cons]
      omega
/-- What is found of the name that it speaks of, ahead and behind. -/
theorem do_own {p : Pl} (hp : RightP p) {o : OpU} (he : o.err p = 0) :
    (o.kind = 1 ∧ findB p.l o.name = none ∧ findB (doP p o).l o.name = some o.b.plain) ∨
    (o.kind = 2 ∧ (∃ b, findB p.l o.name = some b) ∧ findB (doP p o).l o.name = none) ∨
    (3 ≤ o.kind ∧ o.kind ≤ 5 ∧ ∃ b, findB p.l o.name = some b ∧ findB (doP p o).l o.name = some (o.set b) ∧ (o.kind = 4 → b.dr = false) ∧ (o.kind = 5 → b.dr = true)) := by
  have hr := (do_right hp o).rise
  rw [do_yes he] at hr ⊢
  by_cases hk : o.kind = 1
  · obtain ⟨h1, h2, _, _⟩ := err_add hk he
    have hn : o.name = o.b.nm := if_pos hk
    have hl : o.list p.l = insB o.b.plain p.l := if_pos hk
    refine .inl ⟨hk, by rw [hn]; exact h2, ?_⟩
    have h3 : o.b.plain ∈ o.list p.l := by rw [hl]; exact insB_mem.2 (.inl rfl)
    have h4 := find_of hr h3
    rw [hn]
    exact h4
  · obtain ⟨h1, h2, h3, h4, b, hb, hd4, hd5⟩ := err_else hk he
    have hn : o.name = o.nm := if_neg hk
    rw [hn]
    by_cases h2k : o.kind = 2
    · refine .inr (.inl ⟨h2k, ⟨b, hb⟩, ?_⟩)
      refine find_no fun x hx e => ?_
      have hx2 : x ∈ o.list p.l := hx
      unfold OpU.list at hx2
      rw [if_neg hk, if_pos h2k, List.mem_filter] at hx2
      exact absurd e (of_decide_eq_true hx2.2)
    · refine .inr (.inr ⟨by omega, h2, b, hb, ?_, hd4, hd5⟩)
      obtain ⟨hm, hbn⟩ := find_some hb
      have h5 : o.set b ∈ o.list p.l := by
        unfold OpU.list
        rw [if_neg hk, if_neg h2k, List.mem_map]
        exact ⟨b, hm, by unfold OpU.at_; rw [if_pos hbn]⟩
      have h6 := find_of hr h5
      rw [o.set_nm, hbn] at h6
      exact h6
/-- How many there are. -/
theorem do_len {p : Pl} (hp : RightP p) {o : OpU} (he : o.err p = 0) : ((doP p o).l.length : Int) = (p.l.length : Int) + if o.kind = 1 then 1 else if o.kind = 2 then -1 else 0 := by
  rw [do_yes he]
  show ((o.list p.l).length : Int) = _
  unfold OpU.list
  by_cases hk : o.kind = 1
  · rw [if_pos hk, if_pos hk, insB_len]
    omega
  · rw [if_neg hk, if_neg hk]
    by_cases h2k : o.kind = 2
    · rw [if_pos h2k, if_pos h2k]
      obtain ⟨_, _, _, _, b, hb, _, _⟩ := err_else hk he
      obtain ⟨hm, hbn⟩ := find_some hb
      have hone := less_one hp.rise hm
      rw [hbn] at hone
      omega
    · rw [if_neg h2k, if_neg h2k, List.length_map]
      omega
/-- What is added and removed again leaves the backends as they were. -/
theorem add_remove {l : List Bk} {x : Bk} (hn : ∀ y, y ∈ l → y.nm ≠ x.nm) : (insB x l).filter (fun y => decide (y.nm ≠ x.nm)) = l := by
  induction l with
  | nil =>
    show [x].filter _ = []
    simp
  | cons y l ih =>
    have hy := hn y (List.mem_cons_self ..)
    have ih2 := ih (fun z hz => hn z (List.mem_cons_of_mem _ hz))
    have hl : l.filter (fun y => decide (y.nm ≠ x.nm)) = l := List.filter_eq_self.2 fun z hz => decide_eq_true (hn z (List.mem_cons_of_mem _ hz))
    unfold insB
    split
    · rw [List.filter_cons_of_neg (by simp), List.filter_cons_of_pos (by exact decide_eq_true hy), hl]
    · rw [List.filter_cons_of_pos (by exact decide_eq_true hy), ih2]
/-- What is drained and brought back is as it was. -/
theorem drain_back {l : List Bk} (hr : RiseB l) {s : List UInt8} {b : Bk} (hb : findB l s = some b) (hd : b.dr = false) {o u : OpU} (ho : o.kind = 4) (hu : u.kind = 5) (h1 : o.nm = s) (h2 : u.nm = s) : (l.map o.at_).map u.at_ = l := by
  obtain ⟨hm, hbn⟩ := find_some hb
  rw [List.map_map]
  have e : ∀ x, x ∈ l → (u.at_ ∘ o.at_) x = x := by
    intro x hx
    show u.at_ (o.at_ x) = x
    by_cases hs : x.nm = s
    · have hxb : x = b := rise_one hr hx hm (by rw [hs, hbn])
      have h3 : o.at_ x = { x with dr := true } := by
        unfold OpU.at_ OpU.set
        rw [if_pos (by rw [h1]; exact hs), if_neg (by omega)]
        simp [ho]
      rw [h3]
      unfold OpU.at_ OpU.set
      rw [if_pos (by rw [h2]; exact hs), if_neg (by omega)]
      subst hxb
      simp [hu]
      obtain ⟨⟩ := x
      simp at hd
      subst hd
      rfl
    · have h3 : o.at_ x = x := by
        unfold OpU.at_
        rw [if_neg (by rw [h1]; exact hs)]
      rw [h3]
      unfold OpU.at_
      rw [if_neg (by rw [h2]; exact hs)]
  calc l.map (u.at_ ∘ o.at_) = l.map id := List.map_congr_left e
    _ = l := List.map_id l
end Go.Proofs.Ytajmppaodhpmgaa
