/-
  What is done, place by place. No program is walked here.
  The program: remove, weigh, drain.
  The program: add.
  The program: done.
  The program: Do.
-/
import Derived.Test.YtajmppaodhpmgaaUP7
import Derived.Test.YtajmppaodhpmgaaUP11
import Derived.Test.YtajmppaodhpmgaaUP3
import Derived.Test.YtajmppaodhpmgaaUBld
import Derived.Test.YtajmppaodhpmgaaURDo
import Derived.Test.YtajmppaodhpmgaaULaw
import Derived.Test.YtajmppaodhpmgaaULaw4
namespace Go.Proofs.Ytajmppaodhpmgaa
open Go.RowKit Go.Lib

theorem ins_at {x : Bk} : ∀ {l : List Bk} {i : Nat}, PlaceAt l x.nm i false → insB x l = l.take i ++ x :: l.drop i
  | [], i, h => by
    have : i = 0 := by have := h.le; simpa using this
    subst this
    rfl
  | y :: l, 0, h => by
    have h1 := h.top 0 y (Nat.le_refl _) rfl
    have h2 := h.no rfl y rfl
    unfold insB
    rw [if_pos (less_other h1 h2)]
    rfl
  | y :: l, i + 1, h => by
    have h1 := h.low 0 y (by omega) rfl
    unfold insB
    rw [if_neg (by rw [less_asym h1]; decide)]
    have ih : PlaceAt l x.nm i false := ⟨by have := h.le; simp at this; omega, fun j a hj ha => h.low (j + 1) a (by omega) ha, fun j a hj ha => h.top (j + 1) a (by omega) ha, (fun h => by cases h), fun _ b hb => h.no rfl b hb⟩
    rw [ins_at ih]
    rfl
theorem rise_tail {y : Bk} {l : List Bk} (h : RiseB (y :: l)) : RiseB l := (List.pairwise_cons.1 h).2
theorem rise_head {y : Bk} {l : List Bk} (h : RiseB (y :: l)) : ∀ z, z ∈ l → z.nm ≠ y.nm := fun z hz e => by
  have := (List.pairwise_cons.1 h).1 z hz
  rw [e, less_irr] at this
  cases this
theorem del_at : ∀ {l : List Bk} {i : Nat} {b : Bk}, RiseB l → l[i]? = some b → l.filter (fun x => decide (x.nm ≠ b.nm)) = l.take i ++ l.drop (i + 1)
  | [], _, _, _, h => by simp at h
  | y :: l, 0, b, hr, h => by
    simp at h
    subst h
    have e : l.filter (fun x => decide (x.nm ≠ y.nm)) = l := List.filter_eq_self.2 fun z hz => decide_eq_true (rise_head hr z hz)
    rw [List.filter_cons_of_neg (by simp), e]
    rfl
  | y :: l, i + 1, b, hr, h => by
    have h2 : l[i]? = some b := h
    have hy : y.nm ≠ b.nm := fun e => rise_head hr b (List.mem_of_getElem? h2) e.symm
    rw [List.filter_cons_of_pos (by exact decide_eq_true hy), del_at (rise_tail hr) h2]
    rfl
theorem map_at (f : Bk → Bk) : ∀ {l : List Bk} {i : Nat} {b : Bk}, RiseB l → l[i]? = some b → l.map (fun x => if x.nm = b.nm then f x else x) = l.set i (f b)
  | [], _, _, _, h => by simp at h
  | y :: l, 0, b, hr, h => by
    simp at h
    subst h
    have e : l.map (fun x => if x.nm = y.nm then f x else x) = l := by
      conv => rhs; rw [← List.map_id l]
      exact List.map_congr_left fun z hz => if_neg (rise_head hr z hz)
    rw [List.map_cons, e, if_pos rfl]
    rfl
  | y :: l, i + 1, b, hr, h => by
    have h2 : l[i]? = some b := h
    have hy : y.nm ≠ b.nm := fun e => rise_head hr b (List.mem_of_getElem? h2) e.symm
    rw [List.map_cons, map_at f (rise_tail hr) h2, if_neg hy]
    rfl
theorem wt_plain (u : Nat) : wtW (plainW u) = wtW u := by
  unfold plainW
  split
  · rename_i h
    have e : wtW u = true := by
      unfold wtW
      rw [decide_eq_true h, Bool.true_or]
    rw [e]
    decide
  · rfl
theorem right_plain (b : Bk) : rightBk b.plain = fairB b := by
  cases h : fairB b
  · have e : fairB b.plain = fairB b := by
      unfold fairB Bk.plain
      simp only [wt_plain]
    unfold rightBk
    rw [e, h]
    rfl
  · exact fair_plain h
/-- The errors of what is done to a list, whatever the version. -/
def errAdd (l : List Bk) (b : Bk) : Int := if fairB b = false then 1 else if (findB l b.nm).isSome then 6 else if 1024 ≤ l.length then 7 else 0
def errNone (l : List Bk) (s : List UInt8) : Int := if (findB l s).isSome then 0 else 5
def errWt (l : List Bk) (s : List UInt8) (u : Nat) : Int := if wtW u = false then 1 else if (findB l s).isSome then 0 else 5
def errDr (l : List Bk) (s : List UInt8) (d : Bool) : Int := match findB l s with
  | none => 5
  | some b => if b.dr = d then 6 else 0
def toWt (s : List UInt8) (u : Nat) (h : u < T64) (l : List Bk) : List Bk := l.map fun x => if x.nm = s then { x with wt := plainW u, hw := plain_lt h } else x
def toDr (s : List UInt8) (d : Bool) (l : List Bk) : List Bk := l.map fun x => if x.nm = s then { x with dr := d } else x
def OpU.e1 (o : OpU) (l : List Bk) : Int :=
  if o.kind = 1 then errAdd l o.b else if o.kind = 2 then errNone l o.nm else if o.kind = 3 then errWt l o.nm o.wt else if o.kind = 4 then errDr l o.nm true else if o.kind = 5 then errDr l o.nm false else 1
theorem err_e1 (o : OpU) (p : Pl) : o.err p = if o.e1 p.l = 0 ∧ 1099511627776 ≤ p.ver then 7 else o.e1 p.l := by
  unfold OpU.err OpU.e1
  by_cases h1 : o.kind = 1
  · rw [if_pos h1, if_pos h1]
    unfold errAdd
    split
    · simp
    · split
      · simp
      · by_cases h3 : 1024 ≤ p.l.length
        · rw [if_pos h3, if_pos (.inl h3)]
          simp
        · rw [if_neg h3]
          by_cases h4 : 1099511627776 ≤ p.ver
          · rw [if_pos (.inr h4), if_pos ⟨rfl, h4⟩]
          · rw [if_neg (by omega), if_neg (by omega)]
  · rw [if_neg h1, if_neg h1]
    by_cases h2 : o.kind = 2
    · rw [if_neg (by omega), if_pos h2]
      unfold errNone
      cases findB p.l o.nm with
      | none => simp
      | some b => simp [h2]
    · rw [if_neg h2]
      by_cases h3 : o.kind = 3
      · rw [if_pos h3]
        unfold errWt
        cases hw : wtW o.wt
        · rw [if_pos (.inr (.inr ⟨h3, rfl⟩))]
          simp
        · rw [if_neg (by rintro (h | h | ⟨_, h⟩); omega; omega; cases h)]
          cases findB p.l o.nm with
          | none => simp
          | some b => simp [h3]
      · rw [if_neg h3]
        by_cases h4 : o.kind = 4
        · rw [if_neg (by omega), if_pos h4]
          unfold errDr
          cases findB p.l o.nm with
          | none => simp
          | some b =>
            cases hd : b.dr
            · simp [h4, hd]
            · simp [h4, hd]
        · rw [if_neg h4]
          by_cases h5 : o.kind = 5
          · rw [if_neg (by omega), if_pos h5]
            unfold errDr
            cases findB p.l o.nm with
            | none => simp
            | some b =>
              cases hd : b.dr
              · simp [h5, hd]
              · simp [h5, hd]
          · rw [if_neg h5, if_pos (by omega)]
            simp
end Go.Proofs.Ytajmppaodhpmgaa
namespace Go.Proofs.Ytajmppaodhpmgaa
set_option maxRecDepth 100000
open Go.RowKit Go.Lib

/-- What is answered: an error, or the list behind it. -/
def SubGave (base : Nat) (w : World) (err : Int) (ys : List Bk) (e : Ending) (w' : World) : Prop := ∃ v', e = .returned (.tuple #[v', .int .i64 err]) ∧ (err = 0 → OwnG eB w' base v' ys) ∧ Below base w w'
theorem sub_no {base : Nat} {w w' : World} {err : Int} {ys : List Bk} {v : Value} (h : err ≠ 0) (hb : Below base w w') : SubGave base w err ys (.returned (.tuple #[v, .int .i64 err])) w' := ⟨v, rfl, fun e => absurd e h, hb⟩
set_option maxHeartbeats 4000000 in
theorem premove_any {w : World} {base n c : Nat} {A : Option Addr} {l : List Bk} (hr : RiseB l) (hown : OwnG eB w base (.slice A n c) l) (hbase : base ≤ w.heap.size) (hn : n ≤ 1000000) (s : List UInt8) :
    Calls Try.prog 54 #[.slice A n c, .string ⟨s.toArray⟩] w (SubGave base w (errNone l s) (l.filter fun x => decide (x.nm ≠ s))) := by
  have HP := Lib.hid (pplace_any c hr hn s w (Nat.le_refl _) hown.rd)
  have HO := Lib.hid hown
  have HR := Lib.hid hr
  have HN := Lib.hid hn
  have HBB := Lib.hid hbase
  obtain ⟨E, hE⟩ : ∃ E, errNone l s = E := ⟨_, rfl⟩
  have HE := Lib.hid hE
  rw [hE]
  obtain ⟨Z, hZ⟩ : ∃ Z, (l.filter fun x => decide (x.nm ≠ s)) = Z := ⟨_, rfl⟩
  have HZ := Lib.hid hZ
  rw [hZ]
  clear hown hr hn hbase hE hZ
  go_enter Try.func54, Try.ntmps54
  go_upto_region 2 with (go_at_call 40; refine HP.out.mono ?_; rintro e w2 ⟨i, f, rfl, hp, hb⟩; have HPL := Lib.hid hp; have HB := Lib.hid hb; clear hp hb)
  cases f
  · have h1 := HE.out
    unfold errNone at h1
    rw [HPL.out.none HR.out] at h1
    have h2 : E = 5 := h1.symm
    subst h2
    clear h1
    go_wp2_with fail
    go_ret2
    exact sub_no (by decide) (HB.out.mono HBB.out)
  · obtain ⟨b, hb, hs, hf⟩ := HPL.out.find HR.out
    have h1 := HE.out
    unfold errNone at h1
    rw [hf] at h1
    have h2 : E = 0 := h1.symm
    subst h2
    have hl : l.length = n := by obtain ⟨A', m', c', e, hm, _⟩ := HO.out.sl; cases e; exact hm.symm
    have hin : i < n := by rw [← hl]; exact (List.getElem?_eq_some_iff.1 hb).1
    obtain ⟨g, c', e, _⟩ := HO.out.form (by omega)
    have eA : A = some ⟨g, 0, none⟩ := by cases e; rfl
    subst eA
    clear e
    have hgb := HO.out.lt g rfl
    have HD := Lib.hid (pdelete_any (HO.out.below HB.out) HN.out hin)
    have hd := del_at HR.out hb
    rw [hs, HZ.out] at hd
    rw [← hd] at HD
    have HGB := Lib.hid hgb
    have w1 : IntKind.i64.wrap ((i : Int) + 1) = (i : Int) + 1 := by rw [IntKind.wrap_i64]; have := HN.out; omega
    clear h1 hl hin hgb hd hb hs hf
    go_wp2_with (go_at_call 62; refine HD.out.mono ?_; rintro e w3 ⟨v3, rfl, ho3, hg3⟩; have HO3 := Lib.hid ho3; have HB3 := Lib.hid ((HB.out.mono HBB.out).grown hg3 (Nat.le_trans HBB.out HB.out.size) (fun k hk => by cases hk; exact HGB.out)); clear ho3 hg3)
    go_ret2
    exact ⟨v3, rfl, fun _ => HO3.out, HB3.out⟩
theorem bk_f {b : Bk} {i : Nat} {v : Value} {b' : Bk} (h : (bkL b).set i v = bkL b') : eB.f b' = (eB.f b).set i v := h.symm
set_option maxHeartbeats 4000000 in
theorem pweigh_any {w : World} {base n c : Nat} {A : Option Addr} {l : List Bk} (hr : RiseB l) (hown : OwnG eB w base (.slice A n c) l) (hbase : base ≤ w.heap.size) (hn : n ≤ 1000000) (s : List UInt8) {u : Nat} (hu : u < T64) :
    Calls Try.prog 55 #[.slice A n c, .string ⟨s.toArray⟩, .float .f64 u] w (SubGave base w (errWt l s u) (toWt s u hu l)) := by
  have HP := Lib.hid (pplace_any c hr hn s w (Nat.le_refl _) hown.rd)
  have HO := Lib.hid hown
  have HR := Lib.hid hr
  have HN := Lib.hid hn
  have HBB := Lib.hid hbase
  have HU := Lib.hid hu
  have HWT := Lib.hid (fun W => wright_any hu W)
  have HPW := Lib.hid (fun W => wplain_any hu W)
  obtain ⟨E, hE⟩ : ∃ E, errWt l s u = E := ⟨_, rfl⟩
  have HE := Lib.hid hE
  rw [hE]
  obtain ⟨Z, hZ⟩ : ∃ Z, toWt s u hu l = Z := ⟨_, rfl⟩
  have HZ := Lib.hid hZ
  rw [hZ]
  obtain ⟨t, ht⟩ : ∃ t, wtW u = t := ⟨_, rfl⟩
  have HT := Lib.hid ht
  rw [ht] at HWT
  clear hown hr hn hbase hE hZ ht
  cases t
  · have h1 := HE.out
    unfold errWt at h1
    rw [HT.out, if_pos rfl] at h1
    subst h1
    clear HZ hu
    go_enter Try.func55, Try.ntmps55
    go_wp2_with (go_at_call 48; refine (HWT.out _).mono ?_; rintro e w2 ⟨rfl, rfl⟩)
    go_ret2
    exact sub_no (by decide) (Below.refl _ _)
  · have h1 := HE.out
    unfold errWt at h1
    rw [HT.out, if_neg (by decide)] at h1
    have HE1 := Lib.hid h1
    clear h1
    go_enter Try.func55, Try.ntmps55
    go_upto_region 4 with (first | (go_at_call 48; refine (HWT.out _).mono ?_; rintro e w2 ⟨rfl, rfl⟩) | (go_at_call 40; refine HP.out.mono ?_; rintro e w2 ⟨i, f, rfl, hp, hb⟩; have HPL := Lib.hid hp; have HB := Lib.hid hb; clear hp hb))
    cases f
    · have h1 := HE1.out
      rw [HPL.out.none HR.out] at h1
      have h2 : E = 5 := h1.symm
      subst h2
      clear h1
      go_wp2_with fail
      go_ret2
      exact sub_no (by decide) (HB.out.mono HBB.out)
    · obtain ⟨b, hb, hs, hf⟩ := HPL.out.find HR.out
      have h1 := HE1.out
      rw [hf] at h1
      have h2 : E = 0 := h1.symm
      subst h2
      have hl : l.length = n := by obtain ⟨A', m', c', e, hm, _⟩ := HO.out.sl; cases e; exact hm.symm
      have hin : i < n := by rw [← hl]; exact (List.getElem?_eq_some_iff.1 hb).1
      obtain ⟨g, c', e, _⟩ := HO.out.form (by omega)
      have eA : A = some ⟨g, 0, none⟩ := by cases e; rfl
      subst eA
      clear e
      have HGB := Lib.hid (HO.out.lt g rfl)
      have HO2 := Lib.hid (HO.out.below HB.out)
      have hd := map_at (fun x => { x with wt := plainW u, hw := plain_lt HU.out }) HR.out hb
      have h3 : l.set i { b with wt := plainW u, hw := plain_lt HU.out } = Z := by
        rw [← hd, ← HZ.out, hs]
        rfl
      have H3 := Lib.hid h3
      have HBI := Lib.hid hb
      have HPL2 := Lib.hid (plain_lt HU.out)
      have hii : (i : Int) < (n : Int) := by omega
      have hi0 : (0 : Int) ≤ (i : Int) := by omega
      have hi9 : i < 9223372036854775807 := by have := HN.out; omega
      clear h1 hl hin hd hb hs hf h3
      go_wp2_with (first
        | (go_at_call 46; refine (HPW.out _).mono ?_; rintro e w4 ⟨rfl, rfl⟩)
        | ((with_reducible show wpList _ _ _ (⟨none, .store _ _ _, _, _, _, _⟩ :: _) _ _); refine wpList_storeG eB rfl _ _ _ rfl g i 25 (i * 27 + 25) rfl (by rfl) (.float .f64 (plainW u)) (by rfl) l n c base HO2.out b { b with wt := plainW u, hw := HPL2.out } HBI.out (by decide) (bk_f (bkL_wt b HPL2.out)) (by kernel_rfl) rfl rfl ?_; intro w5 ho5 hg5; have HO5 := Lib.hid ho5; have HB5 := Lib.hid ((HB.out.mono HBB.out).grown hg5 (Nat.le_trans HBB.out HB.out.size) (fun k hk => by cases hk; exact HGB.out)); clear ho5 hg5))
      go_ret2
      exact ⟨_, rfl, fun _ => by rw [← H3.out]; exact HO5.out, HB5.out⟩
set_option maxHeartbeats 4000000 in
theorem pdrain_any {w : World} {base n c : Nat} {A : Option Addr} {l : List Bk} (hr : RiseB l) (hown : OwnG eB w base (.slice A n c) l) (hbase : base ≤ w.heap.size) (hn : n ≤ 1000000) (s : List UInt8) (d : Bool) :
    Calls Try.prog 56 #[.slice A n c, .string ⟨s.toArray⟩, .bool d] w (SubGave base w (errDr l s d) (toDr s d l)) := by
  have HP := Lib.hid (pplace_any c hr hn s w (Nat.le_refl _) hown.rd)
  have HO := Lib.hid hown
  have HR := Lib.hid hr
  have HN := Lib.hid hn
  have HBB := Lib.hid hbase
  obtain ⟨E, hE⟩ : ∃ E, errDr l s d = E := ⟨_, rfl⟩
  have HE := Lib.hid hE
  rw [hE]
  obtain ⟨Z, hZ⟩ : ∃ Z, toDr s d l = Z := ⟨_, rfl⟩
  have HZ := Lib.hid hZ
  rw [hZ]
  clear hown hr hn hbase hE hZ
  go_enter Try.func56, Try.ntmps56
  go_upto_region 2 with (go_at_call 40; refine HP.out.mono ?_; rintro e w2 ⟨i, f, rfl, hp, hb⟩; have HPL := Lib.hid hp; have HB := Lib.hid hb; clear hp hb)
  cases f
  · have h1 := HE.out
    unfold errDr at h1
    rw [HPL.out.none HR.out] at h1
    have h2 : E = 5 := h1.symm
    subst h2
    clear h1
    go_wp2_with fail
    go_ret2
    exact sub_no (by decide) (HB.out.mono HBB.out)
  · obtain ⟨b, hb, hs, hf⟩ := HPL.out.find HR.out
    have h1 := HE.out
    unfold errDr at h1
    rw [hf] at h1
    have h2 : E = if b.dr = d then 6 else 0 := h1.symm
    have hl : l.length = n := by obtain ⟨A', m', c', e, hm, _⟩ := HO.out.sl; cases e; exact hm.symm
    have hin : i < n := by rw [← hl]; exact (List.getElem?_eq_some_iff.1 hb).1
    obtain ⟨g, c', e, _⟩ := HO.out.form (by omega)
    have eA : A = some ⟨g, 0, none⟩ := by cases e; rfl
    subst eA
    clear e
    have HGB := Lib.hid (HO.out.lt g rfl)
    have HO2 := Lib.hid (HO.out.below HB.out)
    have hd := map_at (fun x => { x with dr := d }) HR.out hb
    have h3 : l.set i { b with dr := d } = Z := by
      rw [← hd, ← HZ.out, hs]
      rfl
    have H3 := Lib.hid h3
    have HBI := Lib.hid hb
    have hii : (i : Int) < (n : Int) := by omega
    have hi0 : (0 : Int) ≤ (i : Int) := by omega
    have hi9 : i < 9223372036854775807 := by have := HN.out; omega
    have q0 : w2.cell? ⟨g, i * 27 + 26, none⟩ = some (.bool b.dr) := HO2.out.cell hb 26 (bk_dr b)
    obtain ⟨bd, hbd⟩ : ∃ bd, b.dr = bd := ⟨_, rfl⟩
    rw [hbd] at q0 h2
    clear h1 hl hin hd hb hs hf h3 hbd
    by_cases hq : bd = d
    · subst hq
      rw [if_pos rfl] at h2
      subst h2
      have hqb : (bd == bd) = true := by cases bd <;> rfl
      go_wp2_with fail
      go_ret2
      exact sub_no (by decide) (HB.out.mono HBB.out)
    · rw [if_neg hq] at h2
      subst h2
      have hqb : (bd == d) = false := beq_eq_false_iff_ne.2 hq
      clear hq
      go_wp2_with ((with_reducible show wpList _ _ _ (⟨none, .store _ _ _, _, _, _, _⟩ :: _) _ _); refine wpList_storeG eB rfl _ _ _ rfl g i 26 (i * 27 + 26) rfl (by rfl) (.bool d) (by rfl) l n c base HO2.out b { b with dr := d } HBI.out (by decide) (bk_f (bkL_dr b d)) (by kernel_rfl) rfl rfl ?_; intro w5 ho5 hg5; have HO5 := Lib.hid ho5; have HB5 := Lib.hid ((HB.out.mono HBB.out).grown hg5 (Nat.le_trans HBB.out HB.out.size) (fun k hk => by cases hk; exact HGB.out)); clear ho5 hg5)
      go_ret2
      exact ⟨_, rfl, fun _ => by rw [← H3.out]; exact HO5.out, HB5.out⟩
end Go.Proofs.Ytajmppaodhpmgaa
namespace Go.Proofs.Ytajmppaodhpmgaa
set_option maxRecDepth 100000
open Go.RowKit Go.Lib

set_option maxHeartbeats 8000000 in
theorem padd_any {w : World} {base n c : Nat} {A : Option Addr} {l : List Bk} (hr : RiseB l) (hown : OwnG eB w base (.slice A n c) l) (hbase : base ≤ w.heap.size) (hn : n ≤ 1000000) (b : Bk) (hnm : b.nm.length ≤ 1000000) :
    Calls Try.prog 53 #[.slice A n c, bkC b] w (SubGave base w (errAdd l b) (insB b.plain l)) := by
  obtain ⟨Y, hY⟩ : ∃ Y, w.alloc (.cells (bkL b).toArray 36) = Y := ⟨_, rfl⟩
  have hT : Blk Y 36 w.heap.size (bkL b) := by rw [← hY]; exact Blk_10.new w _ _
  have hB : Below w.heap.size w Y := by rw [← hY]; exact (Below.refl w.heap.size w).alloc (Nat.le_refl _) _
  have q4 := Blk_10.cell hT (bk_wt b)
  have HLT := Lib.hid (Blk_10.lt hT)
  have HPW := Lib.hid (fun W => wplain_any b.hw W)
  have HRB := Lib.hid (fun W => prightB_any b.plain hnm W)
  rw [right_plain] at HRB
  unfold bkC at HRB
  obtain ⟨LP, hLP⟩ : ∃ L, (bkL b.plain).toArray = L := ⟨_, rfl⟩
  rw [hLP] at HRB
  have HLP := Lib.hid hLP
  have HO := Lib.hid hown
  have HR := Lib.hid hr
  have HN := Lib.hid hn
  have HBB := Lib.hid hbase
  have HL := Lib.hid (show l.length = n by obtain ⟨A', m', c', e, hm, _⟩ := hown.sl; cases e; exact hm.symm)
  obtain ⟨E, hE⟩ : ∃ E, errAdd l b = E := ⟨_, rfl⟩
  have HE := Lib.hid hE
  rw [hE]
  obtain ⟨Z, hZ⟩ : ∃ Z, insB b.plain l = Z := ⟨_, rfl⟩
  have HZ := Lib.hid hZ
  rw [hZ]
  unfold bkC
  obtain ⟨L, hL⟩ : ∃ L, (bkL b).toArray = L := ⟨_, rfl⟩
  rw [hL]
  rw [hL] at hY
  rw [← hY] at q4 hT hB
  have HT := Lib.hid hT
  have HB := Lib.hid hB
  rw [← hY] at HLT
  obtain ⟨t, ht⟩ : ∃ t, fairB b = t := ⟨_, rfl⟩
  have HTT := Lib.hid ht
  rw [ht] at HRB
  have HPL := Lib.hid (fun W (hW : Below w.heap.size w W) => pplace_any c hr hn b.nm W hW.size (hown.rd.below hW))
  clear hT hB hY hL hLP hown hr hn hbase hE hZ ht hnm
  cases t
  · have h1 := HE.out
    unfold errAdd at h1
    rw [HTT.out, if_pos rfl] at h1
    subst h1
    go_enter Try.func53, Try.ntmps53
    go_wp2_with (first
      | (go_at_call 46; refine (HPW.out _).mono ?_; rintro e w2 ⟨rfl, rfl⟩)
      | ((with_reducible show wpList _ _ _ (⟨none, .store _ _ _, _, _, _, _⟩ :: _) _ _); refine wpList_storeB1 rfl _ _ _ rfl w.heap.size 25 (by rfl) (.float .f64 (plainW b.wt)) (by rfl) _ (bkL b) HT.out (by rw [bkL_len]; decide) (by kernel_rfl) rfl rfl ?_; intro w3 hb3 hg3; rw [bkL_wt b (plain_lt b.hw)] at hb3; have H3 : Hid (Blk w3 36 w.heap.size (bkL b.plain)) := Lib.hid hb3; have HB3 := Lib.hid (below_gb HB.out hg3 (Nat.le_refl _) HB.out.size); clear hb3 hg3 q4 HT HB)
      | ((with_reducible show wpList _ _ _ (⟨some 12, _, _, _, _, _⟩ :: _) _ _); refine wpList_loadBk (op := ⟨some 12, _, _, _, _, _⟩) _ rfl (by rfl) w.heap.size 0 (by rfl) b.plain (Blk_10.range H3.out) _ HLP.out ?_)
      | (go_at_call 29; refine (HRB.out _).mono ?_; rintro e w4 ⟨rfl, hb4⟩; have H4 := Lib.hid (Blk_10.below H3.out (Blk_10.lt H3.out) hb4); have HB4 := Lib.hid (HB3.out.trans (hb4.mono HB3.out.size)); have q0 : w4.cell? ⟨w.heap.size, 0, none⟩ = some (.string ⟨b.nm.toArray⟩) := Blk_10.cell H4.out (bk_nm b.plain); clear hb4 H3 HB3))
    go_ret2
    exact sub_no (by decide) (HB4.out.mono HBB.out)
  · have h1 := HE.out
    unfold errAdd at h1
    rw [HTT.out, if_neg (by decide)] at h1
    have HE1 := Lib.hid h1
    clear h1
    go_enter Try.func53, Try.ntmps53
    go_upto_region 5 with (first
      | (go_at_call 46; refine (HPW.out _).mono ?_; rintro e w2 ⟨rfl, rfl⟩)
      | ((with_reducible show wpList _ _ _ (⟨none, .store _ _ _, _, _, _, _⟩ :: _) _ _); refine wpList_storeB1 rfl _ _ _ rfl w.heap.size 25 (by rfl) (.float .f64 (plainW b.wt)) (by rfl) _ (bkL b) HT.out (by rw [bkL_len]; decide) (by kernel_rfl) rfl rfl ?_; intro w3 hb3 hg3; rw [bkL_wt b (plain_lt b.hw)] at hb3; have H3 : Hid (Blk w3 36 w.heap.size (bkL b.plain)) := Lib.hid hb3; have HB3 := Lib.hid (below_gb HB.out hg3 (Nat.le_refl _) HB.out.size); clear hb3 hg3 q4 HT HB)
      | ((with_reducible show wpList _ _ _ (⟨some 12, _, _, _, _, _⟩ :: _) _ _); refine wpList_loadBk (op := ⟨some 12, _, _, _, _, _⟩) _ rfl (by rfl) w.heap.size 0 (by rfl) b.plain (Blk_10.range H3.out) _ HLP.out ?_)
      | (go_at_call 29; refine (HRB.out _).mono ?_; rintro e w4 ⟨rfl, hb4⟩; have H4 := Lib.hid (Blk_10.below H3.out (Blk_10.lt H3.out) hb4); have HB4 := Lib.hid (HB3.out.trans (hb4.mono HB3.out.size)); have q0 : w4.cell? ⟨w.heap.size, 0, none⟩ = some (.string ⟨b.nm.toArray⟩) := Blk_10.cell H4.out (bk_nm b.plain); clear hb4 H3 HB3)
      | (go_at_call 40; refine (HPL.out _ HB4.out).mono ?_; rintro e w5 ⟨i, f, rfl, hp, hb5⟩; have HP := Lib.hid hp; have HB5 := Lib.hid (HB4.out.trans (hb5.mono HB4.out.size)); have H5 := Lib.hid (Blk_10.below H4.out (Blk_10.lt H4.out) hb5); clear hp hb5 q0 H4 HB4))
    cases f
    · have h1 := HE1.out
      rw [HP.out.none HR.out, if_neg (by simp)] at h1
      by_cases hf : 1024 ≤ n
      · rw [HL.out, if_pos hf] at h1
        subst h1
        have hfi : (1024 : Int) ≤ (n : Int) := by omega
        go_wp2_with fail
        go_ret2
        exact sub_no (by decide) (HB5.out.mono HBB.out)
      · rw [HL.out, if_neg hf] at h1
        subst h1
        have hfi : ¬ (1024 : Int) ≤ (n : Int) := by omega
        have HI := Lib.hid (fun W (ho : OwnG eB W base (.slice A n c) l) (hb : base ≤ W.heap.size) (h : Nat) (hx : Blk W 36 h (bkL b.plain)) hne => pinsert_any ho hb HN.out (show i ≤ n by rw [← HL.out]; exact HP.out.le) b.plain h hx hne)
        have hz := ins_at (x := b.plain) HP.out
        rw [HZ.out] at hz
        rw [← hz] at HI
        have HO5 := Lib.hid (HO.out.below HB5.out)
        have HNB : Hid (Blk (w5.alloc (.cells LP 36)) 36 w5.heap.size (bkL b.plain)) := Lib.hid (by rw [← HLP.out]; exact Blk_10.new w5 _ _)
        have HS5 := Lib.hid HB5.out.size
        have HNE : Hid ((Value.slice A n c).ownBlock ≠ some w5.heap.size) := Lib.hid (fun e => by have h8 := HO.out.ltS _ e; have h9 := HS5.out; omega)
        have HB6 := Lib.hid ((HB5.out.mono HBB.out).alloc (Nat.le_trans HBB.out HS5.out) (.cells LP 36))
        clear hz hf
        go_wp2_with (first
          | ((with_reducible show wpList _ _ _ (⟨some 28, _, _, _, _, _⟩ :: _) _ _); refine wpList_loadBk (op := ⟨some 28, _, _, _, _, _⟩) _ rfl (by rfl) w.heap.size 0 (by rfl) b.plain (Blk_10.range H5.out) _ HLP.out ?_)
          | ((with_reducible show wpList _ _ _ (⟨some 29, _, _, _, _, _⟩ :: _) _ _); refine wpList_build1 eB (by decide) b.plain rfl 28 rfl LP HLP.out (by rfl) ?_)
          | (go_at_call 61; refine (HI.out _ (HO5.out.alloc _) (by rw [World.size_alloc]; have := HBB.out; have := HS5.out; omega) _ HNB.out HNE.out).mono ?_; rintro e w7 ⟨v7, rfl, ho7, hg7⟩; have HO7 := Lib.hid ho7; have HB7 := Lib.hid (HB6.out.grown hg7 (by rw [World.size_alloc]; have := HBB.out; have := HS5.out; omega) (fun k hk => HO.out.lt k hk)); clear ho7 hg7))
        go_ret2
        exact ⟨v7, rfl, fun _ => HO7.out, HB7.out⟩
    · obtain ⟨x, hx, hs, hfd⟩ := HP.out.find HR.out
      have h1 := HE1.out
      rw [hfd] at h1
      have h2 : E = 6 := h1.symm
      subst h2
      clear h1 hx hs hfd
      go_wp2_with fail
      go_ret2
      exact sub_no (by decide) (HB5.out.mono HBB.out)
end Go.Proofs.Ytajmppaodhpmgaa
namespace Go.Proofs.Ytajmppaodhpmgaa
set_option maxRecDepth 100000
open Go.RowKit Go.Lib

theorem list_wt {o : OpU} (h : o.kind = 3) (l : List Bk) : toWt o.nm o.wt o.hw l = o.list l := by
  unfold OpU.list toWt
  rw [if_neg (by omega), if_neg (by omega)]
  refine List.map_congr_left fun x _ => ?_
  unfold OpU.at_
  rw [set_wt h]
theorem list_dr {o : OpU} (d : Bool) (h1 : o.kind ≠ 1) (h2 : o.kind ≠ 2) (h3 : o.kind ≠ 3) (hd : decide (o.kind = 4) = d) (l : List Bk) : toDr o.nm d l = o.list l := by
  unfold OpU.list toDr
  rw [if_neg h1, if_neg h2]
  refine List.map_congr_left fun x _ => ?_
  unfold OpU.at_
  rw [set_dr h3, hd]
set_option maxHeartbeats 8000000 in
theorem pdone_any {w : World} {base n c : Nat} {A : Option Addr} {l : List Bk} (hr : RiseB l) (hown : OwnG eB w base (.slice A n c) l) (hbase : base ≤ w.heap.size) (hn : n ≤ 1000000) (o : OpU) (hnm : o.b.nm.length ≤ 1000000) :
    Calls Try.prog 34 #[.slice A n c, opuC o] w (SubGave base w (o.e1 l) (o.list l)) := by
  obtain ⟨Y, hY⟩ : ∃ Y, w.alloc (.cells (opuL o).toArray 38) = Y := ⟨_, rfl⟩
  have hT : Blk Y 38 w.heap.size (opuL o) := by rw [← hY]; exact Blk_10.new w _ _
  have hB : Below w.heap.size w Y := by rw [← hY]; exact (Below.refl w.heap.size w).alloc (Nat.le_refl _) _
  have q0 := Blk_10.cell hT (opu_kind o)
  have q2 : Y.cell? ⟨w.heap.size, 28, none⟩ = some (.string ⟨o.nm.toArray⟩) := Blk_10.cell hT (opu_nm o)
  have q3 := Blk_10.cell hT (opu_wt o)
  have hR := opu_range hT
  have hO := hown.below hB
  have hbY := Nat.le_trans hbase hB.size
  have HADD := Lib.hid (padd_any hr hO hbY hn o.b hnm)
  have HREM := Lib.hid (premove_any hr hO hbY hn o.nm)
  have HWEI := Lib.hid (pweigh_any hr hO hbY hn o.nm o.hw)
  have HDR := Lib.hid (fun d => pdrain_any hr hO hbY hn o.nm d)
  unfold bkC at HADD
  obtain ⟨LB, hLB⟩ : ∃ L, (bkL o.b).toArray = L := ⟨_, rfl⟩
  rw [hLB] at HADD
  have HLB := Lib.hid hLB
  have HBB := Lib.hid hbase
  obtain ⟨E, hE⟩ : ∃ E, o.e1 l = E := ⟨_, rfl⟩
  rw [hE]
  obtain ⟨Z, hZ⟩ : ∃ Z, o.list l = Z := ⟨_, rfl⟩
  rw [hZ]
  unfold OpU.e1 at hE
  unfold opuC
  obtain ⟨L, hL⟩ : ∃ L, (opuL o).toArray = L := ⟨_, rfl⟩
  rw [hL]
  rw [hL] at hY
  rw [← hY] at q0 q2 q3 hR hB HADD HREM HWEI HDR
  have HR := Lib.hid hR
  have HB := Lib.hid (hB.mono hbase)
  clear hT hR hB hY hL hLB hO hbY hown hr hn hbase hnm
  by_cases k1 : o.kind = 1
  · rw [if_pos k1] at hE
    rw [hE, show insB o.b.plain l = Z by rw [← hZ]; unfold OpU.list; rw [if_pos k1]] at HADD
    rw [k1] at q0
    clear hE hZ k1 q2 q3 HREM HWEI HDR
    go_enter Try.func34, Try.ntmps34
    go_wp2_with (first
      | ((with_reducible show wpList _ _ _ (⟨some 12, _, _, _, _, _⟩ :: _) _ _); refine wpList_loadBk (op := ⟨some 12, _, _, _, _, _⟩) _ rfl (by rfl) w.heap.size 1 (by rfl) o.b HR.out _ HLB.out ?_)
      | (go_at_call 53; refine HADD.out.mono ?_; rintro e w2 ⟨v2, rfl, ho2, hb2⟩; have HO2 := Lib.hid ho2; have HB2 := Lib.hid (HB.out.trans hb2); clear ho2 hb2))
    go_ret2
    exact ⟨v2, rfl, HO2.out, HB2.out⟩
  · rw [if_neg k1] at hE
    have b1 : (o.kind == 1) = false := beq_eq_false_iff_ne.2 k1
    by_cases k2 : o.kind = 2
    · rw [if_pos k2] at hE
      rw [hE, show (l.filter fun x => decide (x.nm ≠ o.nm)) = Z by rw [← hZ]; unfold OpU.list; rw [if_neg k1, if_pos k2]] at HREM
      rw [k2] at q0
      clear hE hZ k1 k2 b1 q3 HADD HWEI HDR
      go_enter Try.func34, Try.ntmps34
      go_wp2_with (go_at_call 54; refine HREM.out.mono ?_; rintro e w2 ⟨v2, rfl, ho2, hb2⟩; have HO2 := Lib.hid ho2; have HB2 := Lib.hid (HB.out.trans hb2); clear ho2 hb2)
      go_ret2
      exact ⟨v2, rfl, HO2.out, HB2.out⟩
    · rw [if_neg k2] at hE
      have b2 : (o.kind == 2) = false := beq_eq_false_iff_ne.2 k2
      by_cases k3 : o.kind = 3
      · rw [if_pos k3] at hE
        rw [hE, show toWt o.nm o.wt o.hw l = Z by rw [← hZ]; exact list_wt k3 l] at HWEI
        rw [k3] at q0
        clear hE hZ k1 k2 k3 b1 b2 HADD HREM HDR
        go_enter Try.func34, Try.ntmps34
        go_wp2_with (go_at_call 55; refine HWEI.out.mono ?_; rintro e w2 ⟨v2, rfl, ho2, hb2⟩; have HO2 := Lib.hid ho2; have HB2 := Lib.hid (HB.out.trans hb2); clear ho2 hb2)
        go_ret2
        exact ⟨v2, rfl, HO2.out, HB2.out⟩
      · rw [if_neg k3] at hE
        have b3 : (o.kind == 3) = false := beq_eq_false_iff_ne.2 k3
        by_cases k4 : o.kind = 4
        · rw [if_pos k4] at hE
          have HD4 := Lib.hid (HDR.out true)
          rw [hE, show toDr o.nm true l = Z by rw [← hZ]; exact list_dr true k1 k2 k3 (decide_eq_true k4) l] at HD4
          rw [k4] at q0
          clear hE hZ k1 k2 k3 k4 b1 b2 b3 q3 HADD HREM HWEI HDR
          go_enter Try.func34, Try.ntmps34
          go_wp2_with (go_at_call 56; refine HD4.out.mono ?_; rintro e w2 ⟨v2, rfl, ho2, hb2⟩; have HO2 := Lib.hid ho2; have HB2 := Lib.hid (HB.out.trans hb2); clear ho2 hb2)
          go_ret2
          exact ⟨v2, rfl, HO2.out, HB2.out⟩
        · rw [if_neg k4] at hE
          have b4 : (o.kind == 4) = false := beq_eq_false_iff_ne.2 k4
          by_cases k5 : o.kind = 5
          · rw [if_pos k5] at hE
            have HD5 := Lib.hid (HDR.out false)
            rw [hE, show toDr o.nm false l = Z by rw [← hZ]; exact list_dr false k1 k2 k3 (decide_eq_false k4) l] at HD5
            rw [k5] at q0
            clear hE hZ k1 k2 k3 k4 k5 b1 b2 b3 b4 q3 HADD HREM HWEI HDR
            go_enter Try.func34, Try.ntmps34
            go_wp2_with (go_at_call 56; refine HD5.out.mono ?_; rintro e w2 ⟨v2, rfl, ho2, hb2⟩; have HO2 := Lib.hid ho2; have HB2 := Lib.hid (HB.out.trans hb2); clear ho2 hb2)
            go_ret2
            exact ⟨v2, rfl, HO2.out, HB2.out⟩
          · rw [if_neg k5] at hE
            have b5 : (o.kind == 5) = false := beq_eq_false_iff_ne.2 k5
            subst hE
            obtain ⟨k, hk⟩ : ∃ k, o.kind = k := ⟨_, rfl⟩
            rw [hk] at q0 b1 b2 b3 b4 b5
            clear hZ hk k1 k2 k3 k4 k5 q2 q3 HADD HREM HWEI HDR
            go_enter Try.func34, Try.ntmps34
            go_wp2_with fail
            go_ret2
            exact sub_no (by decide) HB.out
end Go.Proofs.Ytajmppaodhpmgaa
namespace Go.Proofs.Ytajmppaodhpmgaa
set_option maxRecDepth 100000
open Go.RowKit Go.Lib

theorem gbOf {a w : World} {row : Option Nat} (h : Below a.heap.size a w) : a.grownBy w row := ⟨h.os, h.tape, h.output, h.size, fun k hk _ => h.block k hk⟩
theorem gbB {a w w' : World} {row : Option Nat} (h : a.grownBy w row) (hb : Below w.heap.size w w') : a.grownBy w' row :=
  ⟨hb.os.trans h.os, hb.tape.trans h.tape, hb.output.trans h.output, Nat.le_trans h.size hb.size, fun k hk hne => (hb.block k (Nat.lt_of_lt_of_le hk h.size)).trans (h.block k hk hne)⟩
theorem built_pl (v : Int) (A : Option Addr) (n c : Nat) : Try.prog.built 24 [(0, .int .i64 v), (1, .slice A n c)] = some #[.int .i64 v, .slice A n c] := by kernel_rfl
/-- What Do answers. -/
def PDoGave (w : World) (p : Pl) (o : OpU) (e : Ending) (w' : World) : Prop := ∃ v, e = .returned (.tuple #[.agg #[.int .i64 (doP p o).ver, v], .int .i64 (o.err p)]) ∧ OwnG eB w' w.heap.size v (doP p o).l ∧ Below w.heap.size w w'
theorem PDoGave.no {w w' : World} {p : Pl} {o : OpU} {v : Value} {x : Int} {ver : Int} (hx : x ≠ 0) (he : o.err p = x) (hv : p.ver = ver) (h : OwnG eB w' w.heap.size v p.l) (hb : Below w.heap.size w w') : PDoGave w p o (.returned (.tuple #[.agg #[.int .i64 ver, v], .int .i64 x])) w' := by
  subst he hv
  exact ⟨v, by rw [do_no hx], by rw [do_no hx]; exact h, hb⟩
theorem PDoGave.yes {w w' : World} {p : Pl} {o : OpU} {v : Value} {ver : Int} (he : o.err p = 0) (hv : p.ver = ver) (h : OwnG eB w' w.heap.size v (o.list p.l)) (hb : Below w.heap.size w w') : PDoGave w p o (.returned (.tuple #[.agg #[.int .i64 (ver + 1), v], .int .i64 0])) w' := by
  subst hv
  exact ⟨v, by rw [do_yes he, he], by rw [do_yes he]; exact h, hb⟩
set_option maxHeartbeats 16000000 in
theorem pdo_any {A : Option Addr} {n B : Nat} (c : Nat) {p : Pl} (hp : RightP p) (hn : n ≤ 1000000) (o : OpU) (hnm : o.b.nm.length ≤ 1000000) (w : World) (hB : B ≤ w.heap.size) (h : RdG eB w B A n p.l) :
    Calls Try.prog 19 #[.agg #[.int .i64 p.ver, .slice A n c], opuC o] w (PDoGave w p o) := by
  have hlow := hp.low
  have htop := hp.top
  obtain ⟨v, hv⟩ : ∃ v, p.ver = v := ⟨_, rfl⟩
  rw [hv] at hlow htop ⊢
  have HVV := Lib.hid hv
  have HERR := Lib.hid (err_e1 o p)
  rw [hv] at HERR
  have HDONE := Lib.hid (fun (W : World) (base : Nat) (A' : Option Addr) (n' c' : Nat) (ho : OwnG eB W base (.slice A' n' c') p.l) (hb : base ≤ W.heap.size) (hn' : n' ≤ 1000000) => pdone_any hp.rise ho hb hn' o hnm)
  unfold opuC at HDONE
  unfold opuC
  obtain ⟨LX, hLX⟩ : ∃ L, (opuL o).toArray = L := ⟨_, rfl⟩
  rw [hLX]
  rw [hLX] at HDONE
  have HLX := Lib.hid hLX
  obtain ⟨E, hE⟩ : ∃ E, o.e1 p.l = E := ⟨_, rfl⟩
  rw [hE] at HERR HDONE
  obtain ⟨Y, hY⟩ : ∃ Y, ((w.alloc (.cells #[.int .i64 v, .slice A n c] 24)).alloc (.cells LX 38)).alloc (.cells #[.int .i64 0, .slice none 0 0] 24) = Y := ⟨_, rfl⟩
  have hs1 := World.size_alloc w (.cells #[.int .i64 v, .slice A n c] 24)
  have hs2 := World.size_alloc (w.alloc (.cells #[.int .i64 v, .slice A n c] 24)) (.cells LX 38)
  have HT := Lib.hid (show Blk Y 24 w.heap.size [.int .i64 v, .slice A n c] by rw [← hY]; exact Blk_10.alloc (Blk_10.alloc (Blk_10.new w _ [.int .i64 v, .slice A n c]) _) _)
  have HX := Lib.hid (show Blk Y 38 (w.heap.size + 1) (opuL o) by
    rw [← hY, ← hLX]
    have := Blk_10.new (w.alloc (.cells #[.int .i64 v, .slice A n c] 24)) 38 (opuL o)
    rw [hs1] at this
    exact Blk_10.alloc this _)
  have HZ := Lib.hid (show Blk Y 24 (w.heap.size + 2) [.int .i64 0, .slice none 0 0] by
    rw [← hY]
    have := Blk_10.new ((w.alloc (.cells #[.int .i64 v, .slice A n c] 24)).alloc (.cells LX 38)) 24 [.int .i64 0, .slice none 0 0]
    rw [hs2, hs1] at this
    exact this)
  have hB0 : Below w.heap.size w Y := by rw [← hY]; exact ((((Below.refl w.heap.size w).alloc (Nat.le_refl _) _).alloc (by rw [hs1]; exact Nat.le_succ _) _).alloc (by rw [hs2, hs1]; omega) _)
  have HYS := Lib.hid (show Y.heap.size = w.heap.size + 3 by rw [← hY, World.size_alloc, hs2, hs1])
  have HB := Lib.hid hB0
  have HR := Lib.hid (h.below (hB0.mono hB))
  have HBY := Lib.hid (Nat.le_trans hB hB0.size)
  have HCL := Lib.hid (fun (W : World) (hW : Below Y.heap.size Y W) => pcloneB_any c hn W (Nat.le_trans HBY.out hW.size) (HR.out.below (hW.mono HBY.out)))
  have HL := Lib.hid h.len
  have HNN := Lib.hid hn
  have HY := Lib.hid hY
  have HLOW := Lib.hid hlow
  have D1 : Hid (∀ W, Below Y.heap.size Y W → W.cell? ⟨w.heap.size, 1, none⟩ = some (.slice A n c)) := Lib.hid (fun W (hW : Below Y.heap.size Y W) => (hW.cell (p := ⟨w.heap.size, 1, none⟩) (by rw [HYS.out]; show w.heap.size < _; omega)).trans (Blk_10.cell HT.out (i := 1) rfl))
  have D0 : Hid (∀ W, Below Y.heap.size Y W → W.cell? ⟨w.heap.size, 0, none⟩ = some (.int .i64 v)) := Lib.hid (fun W (hW : Below Y.heap.size Y W) => (hW.cell (p := ⟨w.heap.size, 0, none⟩) (by rw [HYS.out]; show w.heap.size < _; omega)).trans (Blk_10.cell HT.out (i := 0) rfl))
  have DX : Hid (∀ W, Below Y.heap.size Y W → W.rangeAt (w.heap.size + 1) 0 (opuL o)) := Lib.hid (fun W (hW : Below Y.heap.size Y W) => Blk_10.range (Blk_10.below HX.out (by rw [HYS.out]; omega) hW))
  have DZ : Hid (∀ W, Below Y.heap.size Y W → Blk W 24 (w.heap.size + 2) [.int .i64 0, .slice none 0 0]) := Lib.hid (fun W (hW : Below Y.heap.size Y W) => Blk_10.below HZ.out (by rw [HYS.out]; omega) hW)
  have G0 : Hid (∀ W, Y.grownBy W (some (w.heap.size + 2)) → W.cell? ⟨w.heap.size, 0, none⟩ = some (.int .i64 v)) := Lib.hid (fun W hW => Blk_10.cell (Blk.gb HT.out hW (by simp)) (i := 0) rfl)
  have G1 : Hid (∀ W, Y.grownBy W (some (w.heap.size + 2)) → W.cell? ⟨w.heap.size, 1, none⟩ = some (.slice A n c)) := Lib.hid (fun W hW => Blk_10.cell (Blk.gb HT.out hW (by simp)) (i := 1) rfl)
  have HCL2 := Lib.hid (fun (W : World) (hW : Y.grownBy W (some (w.heap.size + 2))) => pcloneB_any c hn W (Nat.le_trans HBY.out hW.size) (HR.out.grown hW HBY.out (fun k e => by cases e; omega)))
  clear hs1 hs2 hB0 hY h hB hLX hE hp hn hnm hv hlow htop HX HZ HT
  go_enter Try.func19, Try.ntmps19
  go_wp2_with fail
  rw [HY.out]
  refine wp_region_held_drew (S := fun W => Below Y.heap.size Y W) (by kernel_rfl) ((Below.refl _ _).drew) (fun hHeld => ?_)
  refine tk 0 9 (.pointer (some ⟨w.heap.size, 1, none⟩)) rfl hHeld ?_
  simp only [Act.put, sA, sZ, sS]
  refine tkY 1 10 (.slice A n c) rfl (Or.inl ⟨by rfl, fun W hW => by have hc := D1.out W hW; go_simp⟩) hHeld ?_
  simp only [Act.put, sA, sZ, sS]
  refine tkY 3 12 (.agg LX) rfl (by rw [← HLX.out]; exact yieldsIf_load_mid (by rfl) 38 _ rfl (w.heap.size + 1) 0 (by rfl) (opuL o) _ DX.out Try.underlying38 rfl (by rw [opuL_len]; exact sizeOpu)) hHeld ?_
  simp only [Act.put, sA, sZ, sS]
  refine wpAnyH_ready (rs := [2]) (by kernel_rfl) (by simp) (AllReadyH.cons (o := ⟨some 11, _, _, _, _, _⟩) rfl (fun K hK => ?_) AllReadyH.nil)
  go_simp
  refine (HCL.out _ hHeld).mono ?_
  rintro e w2 ⟨v2, rfl, ho2, hb2⟩
  obtain ⟨A2, n2, c2, rfl, hn2, g2, g3, g4, g5⟩ := ho2.sl
  clear g2 g3 g4 g5
  have HN2 : Hid (n2 ≤ 1000000) := Lib.hid (by rw [hn2, HL.out]; exact HNN.out)
  have HO1 := Lib.hid (ho2.base_le hHeld.size)
  have HB2 := Lib.hid (hHeld.trans (hb2.mono hHeld.size))
  refine hK.out _ _ (HB2.out) (fun hHeld => ?_)
  clear hK K ho2 hb2 hn2
  refine wpAnyH_ready (rs := [4]) (by kernel_rfl) (by simp) (AllReadyH.cons (o := ⟨some 13, _, _, _, _, _⟩) rfl (fun K hK => ?_) AllReadyH.nil)
  go_simp
  refine (HDONE.out _ Y.heap.size A2 n2 c2 HO1.out hHeld.size HN2.out).mono ?_
  rintro e w3 ⟨V, rfl, ho3, hb3⟩
  have HO2 := Lib.hid ho3
  have HB3 := Lib.hid (hHeld.trans hb3)
  refine hK.out _ _ (HB3.out) (fun hHeld => ?_)
  clear hK K ho3 hb3
  refine tk 5 8 (.tuple #[V, .int .i64 E]) rfl hHeld ?_
  simp only [Act.put, sA, sZ, sS]
  refine tk 6 14 V rfl hHeld ?_
  simp only [Act.put, sA, sZ, sS]
  refine tk 7 15 (.int .i64 E) rfl hHeld ?_
  simp only [Act.put, sA, sZ, sS]
  refine tk 8 6 V rfl hHeld ?_
  simp only [Act.put, sA, sZ, sS]
  refine tk 9 7 (.int .i64 E) rfl hHeld ?_
  simp only [Act.put, sA, sZ, sS]
  have HH := Lib.hid hHeld
  clear hHeld HB3 HB2 HO1 HN2
  refine wpAnyH_done (by kernel_rfl) ?_ _
  have q0 := D0.out w3 HH.out
  by_cases hE0 : E = 0
  · subst hE0
    have ho2 := HO2.out rfl
    obtain ⟨A9, n9, c9, rfl, g1, g2, g3, g4, g5⟩ := ho2.sl
    clear g1 g2 g3 g4 g5
    have HO9 := Lib.hid ho2
    by_cases hvt : 1099511627776 ≤ v
    · have he := HERR.out
      rw [if_pos ⟨rfl, hvt⟩] at he
      have HEE := Lib.hid he
      clear ho2 he
      go_wp2_with fail
      clear q0 hvt
      have HZ3 := Lib.hid (DZ.out w3 HH.out)
      refine wp_region_held_drew (S := fun W => Y.grownBy W (some (w.heap.size + 2))) (by kernel_rfl) (gbOf HH.out.drew) (fun hHeld => ?_)
      refine tk 0 25 (.pointer (some ⟨w.heap.size, 0, none⟩)) rfl hHeld ?_
      simp only [Act.put, sA, sZ, sS]
      refine tkY 1 26 (.int .i64 v) rfl (Or.inl ⟨by rfl, fun W hW => by have hc := G0.out W hW; go_simp⟩) hHeld ?_
      simp only [Act.put, sA, sZ, sS]
      refine tk 2 27 (.pointer (some ⟨w.heap.size, 1, none⟩)) rfl hHeld ?_
      simp only [Act.put, sA, sZ, sS]
      refine tkY 3 28 (.slice A n c) rfl (Or.inl ⟨by rfl, fun W hW => by have hc := G1.out W hW; go_simp⟩) hHeld ?_
      simp only [Act.put, sA, sZ, sS]
      refine tk 6 31 (.int .i64 7) rfl hHeld ?_
      simp only [Act.put, sA, sZ, sS]
      refine wpAnyH_ready (rs := [4]) (by kernel_rfl) (by simp) (AllReadyH.cons (o := ⟨some 29, _, _, _, _, _⟩) rfl (fun K hK => ?_) AllReadyH.nil)
      go_simp
      refine (HCL2.out _ hHeld).mono ?_
      rintro e w6 ⟨v6, rfl, ho6, hb6⟩
      obtain ⟨A6, n6, c6, rfl, g1, g2, g3, g4, g5⟩ := ho6.sl
      clear g1 g2 g3 g4 g5
      have HZ6 := Lib.hid (Blk_10.below (Blk_10.drew HZ3.out) (Blk_10.lt (Blk_10.drew HZ3.out)) hb6)
      have HO6 := Lib.hid (ho6.base_le hHeld.size)
      have HB6 := Lib.hid (gbB hHeld hb6)
      refine hK.out _ _ (HB6.out) (fun hHeld => ?_)
      clear hK K ho6 hb6
      refine tkY 5 30 (.agg #[.int .i64 v, .slice A6 n6 c6]) rfl (yields_build (by rfl) 24 _ rfl [(0, .int .i64 v), (1, .slice A6 n6 c6)] (by kernel_rfl) _ (built_pl _ _ _ _)) hHeld ?_
      simp only [Act.put, sA, sZ, sS]
      refine wpAnyH_ready (rs := [7]) (by kernel_rfl) (by simp) (AllReadyH.cons (o := ⟨none, _, _, _, _, _⟩) rfl (fun K hK => ?_) AllReadyH.nil)
      refine step_storeBA rfl 24 (.tmp 4) (.tmp 30) rfl (w.heap.size + 2) (by rfl) [.int .i64 v, .slice A6 n6 c6] (by rfl) [.int .i64 0, .slice none 0 0] HZ6.out rfl poolSize (by simp [Value.oneCell']) ?_
      intro w9 hb9 hg9
      have HB9 := Lib.hid hb9
      have HG9 := Lib.hid hg9
      have HH9 := Lib.hid (gb2 hHeld hg9)
      refine hK.out _ _ HH9.out (fun hHeld => ?_)
      clear hK K hb9 hg9
      refine tk 8 5 (.int .i64 7) rfl hHeld ?_
      simp only [Act.put, sA, sZ, sS]
      refine wpAnyH_done (by kernel_rfl) ?_ _
      go_wp2_with fail
      refine bodyPost_ret (v := .tuple #[.agg #[.int .i64 v, .slice A6 n6 c6], .int .i64 7]) (results_pool rfl _ _ (w.heap.size + 2) (by rfl) [.int .i64 v, .slice A6 n6 c6] rfl HB9.out _ (by rfl)) rfl ?_
      exact PDoGave.no (by decide) HEE.out HVV.out ((HO6.out.kept HG9.out (.inr (fun e => by have h8 := HO6.out.lt _ e; have h9 := HYS.out; omega))).base_le HB.out.size) (HB.out.grown HH9.out HB.out.size (fun k hk => by cases hk; omega))
    · have he := HERR.out
      rw [if_neg (fun h => hvt h.2)] at he
      have HEE := Lib.hid he
      have w1 : IntKind.i64.wrap (v + 1) = v + 1 := by rw [IntKind.wrap_i64]; have := HLOW.out; omega
      have HZ3 := Lib.hid (DZ.out w3 HH.out)
      have hvn : ¬ v ≥ 1099511627776 := hvt
      clear ho2 he
      go_wp2_with ((with_reducible show wpList _ _ _ (⟨none, .store _ _ _, _, _, _, _⟩ :: _) _ _); refine wpList_storeBA rfl 24 _ _ rfl (w.heap.size + 2) (by rfl) [.int .i64 (v + 1), .slice A9 n9 c9] (by rfl) [.int .i64 0, .slice none 0 0] HZ3.out rfl poolSize (by simp [Value.oneCell']) ?_; intro w9 hb9 hg9; have HB9 := Lib.hid hb9; have HG9 := Lib.hid hg9; clear hb9 hg9)
      refine bodyPost_ret (v := .tuple #[.agg #[.int .i64 (v + 1), .slice A9 n9 c9], .int .i64 0]) (results_pool rfl _ _ (w.heap.size + 2) (by rfl) [.int .i64 (v + 1), .slice A9 n9 c9] rfl HB9.out _ (by rfl)) rfl ?_
      exact PDoGave.yes HEE.out HVV.out ((HO9.out.kept HG9.out (.inr (fun e => by have h8 := HO9.out.lt _ e; have h9 := HYS.out; omega))).base_le HB.out.size) ((HB.out.trans (HH.out.mono HB.out.size)).grown HG9.out (HB.out.trans (HH.out.mono HB.out.size)).size (fun k hk => by cases hk; omega))
  · have he := HERR.out
    rw [if_neg (fun h => hE0 h.1)] at he
    have HEE := Lib.hid he
    have hEb : (E == 0) = false := beq_eq_false_iff_ne.2 hE0
    have hEn : (E != 0) = true := by simp [hE0]
    have HEN := Lib.hid hE0
    clear he hE0
    go_wp2_with fail
    clear q0 hEb hEn
    have HZ3 := Lib.hid (DZ.out w3 HH.out)
    refine wp_region_held_drew (S := fun W => Y.grownBy W (some (w.heap.size + 2))) (by kernel_rfl) (gbOf HH.out.drew) (fun hHeld => ?_)
    refine tk 0 25 (.pointer (some ⟨w.heap.size, 0, none⟩)) rfl hHeld ?_
    simp only [Act.put, sA, sZ, sS]
    refine tkY 1 26 (.int .i64 v) rfl (Or.inl ⟨by rfl, fun W hW => by have hc := G0.out W hW; go_simp⟩) hHeld ?_
    simp only [Act.put, sA, sZ, sS]
    refine tk 2 27 (.pointer (some ⟨w.heap.size, 1, none⟩)) rfl hHeld ?_
    simp only [Act.put, sA, sZ, sS]
    refine tkY 3 28 (.slice A n c) rfl (Or.inl ⟨by rfl, fun W hW => by have hc := G1.out W hW; go_simp⟩) hHeld ?_
    simp only [Act.put, sA, sZ, sS]
    refine tk 6 31 (.int .i64 E) rfl hHeld ?_
    simp only [Act.put, sA, sZ, sS]
    refine wpAnyH_ready (rs := [4]) (by kernel_rfl) (by simp) (AllReadyH.cons (o := ⟨some 29, _, _, _, _, _⟩) rfl (fun K hK => ?_) AllReadyH.nil)
    go_simp
    refine (HCL2.out _ hHeld).mono ?_
    rintro e w6 ⟨v6, rfl, ho6, hb6⟩
    obtain ⟨A6, n6, c6, rfl, g1, g2, g3, g4, g5⟩ := ho6.sl
    clear g1 g2 g3 g4 g5
    have HZ6 := Lib.hid (Blk_10.below (Blk_10.drew HZ3.out) (Blk_10.lt (Blk_10.drew HZ3.out)) hb6)
    have HO6 := Lib.hid (ho6.base_le hHeld.size)
    have HB6 := Lib.hid (gbB hHeld hb6)
    refine hK.out _ _ (HB6.out) (fun hHeld => ?_)
    clear hK K ho6 hb6
    refine tkY 5 30 (.agg #[.int .i64 v, .slice A6 n6 c6]) rfl (yields_build (by rfl) 24 _ rfl [(0, .int .i64 v), (1, .slice A6 n6 c6)] (by kernel_rfl) _ (built_pl _ _ _ _)) hHeld ?_
    simp only [Act.put, sA, sZ, sS]
    refine wpAnyH_ready (rs := [7]) (by kernel_rfl) (by simp) (AllReadyH.cons (o := ⟨none, _, _, _, _, _⟩) rfl (fun K hK => ?_) AllReadyH.nil)
    refine step_storeBA rfl 24 (.tmp 4) (.tmp 30) rfl (w.heap.size + 2) (by rfl) [.int .i64 v, .slice A6 n6 c6] (by rfl) [.int .i64 0, .slice none 0 0] HZ6.out rfl poolSize (by simp [Value.oneCell']) ?_
    intro w9 hb9 hg9
    have HB9 := Lib.hid hb9
    have HG9 := Lib.hid hg9
    have HH9 := Lib.hid (gb2 hHeld hg9)
    refine hK.out _ _ HH9.out (fun hHeld => ?_)
    clear hK K hb9 hg9
    refine tk 8 5 (.int .i64 E) rfl hHeld ?_
    simp only [Act.put, sA, sZ, sS]
    refine wpAnyH_done (by kernel_rfl) ?_ _
    go_wp2_with fail
    refine bodyPost_ret (v := .tuple #[.agg #[.int .i64 v, .slice A6 n6 c6], .int .i64 E]) (results_pool rfl _ _ (w.heap.size + 2) (by rfl) [.int .i64 v, .slice A6 n6 c6] rfl HB9.out _ (by rfl)) rfl ?_
    exact PDoGave.no HEN.out HEE.out HVV.out ((HO6.out.kept HG9.out (.inr (fun e => by have h8 := HO6.out.lt _ e; have h9 := HYS.out; omega))).base_le HB.out.size) (HB.out.grown HH9.out HB.out.size (fun k hk => by cases hk; omega))
end Go.Proofs.Ytajmppaodhpmgaa
