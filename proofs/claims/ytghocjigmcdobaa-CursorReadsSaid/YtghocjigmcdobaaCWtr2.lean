/-
  The contracts of a writer's calls: Bytes, Var, Num, Text, Out.
-/
import Derived.Test.YtghocjigmcdobaaCWtr
namespace Go.Proofs.Ytghocjigmcdobaa
open Go.RowKit Go.Lib

/-- What a writer's call leaves. -/
def Wrote (w : World) (P : Nat) (v : Value) (s : WS) (e : Ending) (w' : World) : Prop := ∃ v', e = .returned (.tuple #[]) ∧ Wtr w' P v' s ∧ WKeep w w' P v v'

section
variable {w w1 w2 : World} {P : Nat} {v v' v2 : Value} {s : WS} {bs cs : List UInt8}
/-- Its block lies as it lay, when its slice has been appended to. -/
theorem Wtr.blk_app (h : Wtr w P v s) (hg : w.grownBy w1 v.ownBlock) : w1.heap[P]? = some (.cells #[.int .i64 (s.m : Int), v, .int .i64 (s.f : Int)] 90 (0, 0)) :=
  (hg.block P h.lt (fun e => by rcases h.noP with hn | hn <;> simp_all)).trans h.blk
theorem blk_stored (hb : w1.heap[P]? = some (.cells #[.int .i64 (s.m : Int), v, .int .i64 (s.f : Int)] 90 (0, 0))) (hown : Own8 w1 (P + 1) v' cs) (hle : cs.length ≤ s.m) (hbig : s.m ≤ 9223372036854775807) :
    Wtr (w1.setCell ⟨P, 1, none⟩ v') P v' ⟨s.m, cs, s.f⟩ :=
  ⟨heap_set (i := 1) hb v', hown.low (gb_set (World.grownBy.refl _ _) 1 v') (by omega), hle, hbig⟩
theorem rd_app {B n : Nat} {A : Option Addr} {xs : List UInt8} {row : Option Nat} (h : Rd w B A n xs) (hB : B ≤ w.heap.size) (hg : w.grownBy w1 row) (hr : ∀ g, row = some g → B ≤ g) : Rd w1 B A n xs :=
  h.keep fun p hp => World.cell?_of_block (hg.block p.block (by omega) (fun e => by have := hr _ e.symm; omega))
end

set_option maxRecDepth 100000 in
set_option maxHeartbeats 1000000 in
theorem wbytes_any {w : World} {P : Nat} {v : Value} {s : WS} (h : Wtr w P v s) {B : Nat} {A : Option Addr} {len : Nat} (cap : Nat) {bs : List UInt8} (hr : Rd w B A len bs) (hlen : s.ys.length + bs.length ≤ 1000000000) :
    Calls Try.prog 34 #[.pointer (some ⟨P, 0, none⟩), .slice A len cap] w (Wrote w P v (s.put bs)) := by
  have HL := Lib.hid hr.len
  by_cases hf : s.f = 0
  · by_cases hl : s.room < bs.length
    · rw [WS.put_long hf hl]
      have HF := Lib.hid hf
      have hl' : s.room < len := by rw [← hr.len]; exact hl
      clear hf hl
      go_enter Try.func34, Try.ntmps34
      go_wp2_with fail
      refine (fits_no h HF.out len hl').mono ?_
      rintro e w1 ⟨rfl, h1, g1⟩
      go_wp2_with fail
      go_end0
      exact ⟨v, rfl, h1, WKeep.grown g1 v⟩
    · rw [WS.put_fits hf hl]
      have HF := Lib.hid hf
      have hl' : len ≤ s.room := by rw [← hr.len]; omega
      have hle := h.le
      have hroom : s.ys.length + bs.length ≤ s.m := by unfold WS.room at hl; omega
      clear hf hl
      go_enter Try.func34, Try.ntmps34
      go_wp2_with fail
      refine (fits_yes h HF.out len hl').mono ?_
      rintro e w1 ⟨rfl, k, rfl⟩
      have h1 := h.drewN k
      have c1 := h1.c1
      go_wp2_with (at_builtin; refine wpList_append8 rfl _ _ rfl (P + 1) _ s.ys (by rfl) h1.own _ _ _ _ bs (by rfl) (hr.drewN k) (by have := HL.out; omega) (by have := h1.lt; omega) ?_; intro v' w1 hown' hgrow hob; obtain ⟨A9, m9, c9, rfl, hm9, _, _, hr9⟩ := hown'.sl; have HM := Lib.hid hm9; clear hm9 hr9; have d0 := h1.blk_app hgrow; have d1 : w1.cell? ⟨P, 1, none⟩ = some v := (by rw [cell_of_row w1 P 1 _ _ (0, 0) d0]; rfl); have z1 : w1.frozen? ⟨P, 1, none⟩ = false := (by simp [World.frozen?, d0]))
      go_end0
      exact ⟨_, rfl, blk_stored d0 hown' (by rw [List.length_append]; exact hroom) h.big, ((WKeep.grown (gb_drewN (World.grownBy.refl w (some P)) k) v).trans (WKeep.app hgrow hob)).trans (WKeep.grown (gb_set (World.grownBy.refl w1 (some P)) 1 _) _)⟩
  · rw [WS.put_bad hf]
    have HF := Lib.hid hf
    clear hf
    go_enter Try.func34, Try.ntmps34
    go_wp2_with fail
    refine (fits_bad h HF.out len).mono ?_
    rintro e w1 ⟨rfl, h1, g1⟩
    go_wp2_with fail
    go_end0
    exact ⟨v, rfl, h1, WKeep.grown g1 v⟩

set_option maxRecDepth 100000 in
set_option maxHeartbeats 1000000 in
theorem wvar_any {w : World} {P : Nat} {v : Value} {s : WS} (h : Wtr w P v s) (n : Nat) (hn : n < 18446744073709551616) (hlen : s.ys.length ≤ 900000000) :
    Calls Try.prog 31 #[.pointer (some ⟨P, 0, none⟩), .int .u64 (n : Int)] w (Wrote w P v (s.put (uvarint n))) := by
  have h10 := uvarint_length64 hn
  have HV := Lib.hid (fun W => vput_any n hn W)
  clear hn
  go_enter Try.func31, Try.ntmps31
  go_wp2_with fail
  refine Calls.mono (HV.out _) ?_
  rintro e w1 ⟨u, rfl, hown, hb⟩
  obtain ⟨A1, m1, c1, rfl, hm1, _, _, hr⟩ := hown.sl
  subst hm1
  go_wp2_with fail
  refine (wbytes_any (h.below hb) c1 hr (by omega)).mono ?_
  rintro e w2 ⟨v', rfl, h2, k2⟩
  go_wp2_with fail
  go_end0
  exact ⟨v', rfl, h2, ((WKeep.refl w P v).below hb (Nat.le_refl _)).trans k2⟩

/-- What Num writes. -/
def WS.num (s : WS) (n : Nat) (z : Int) (big : Bool) : WS := if 1 ≤ z ∧ z ≤ 8 then s.put (bytesOf n (sizeOf8 z) big) else s.fail 1

set_option maxRecDepth 100000 in
set_option maxHeartbeats 1000000 in
theorem wnum_any {w : World} {P : Nat} {v : Value} {s : WS} (h : Wtr w P v s) (n : Nat) (z : Int) (big : Bool) (hlen : s.ys.length ≤ 900000000) :
    Calls Try.prog 29 #[.pointer (some ⟨P, 0, none⟩), .int .u64 (n : Int), .int .i64 z, .bool big] w (Wrote w P v (s.num n z big)) := by
  have h8 := sizeOf8_le z
  have hbl := bytesOf_length n (sizeOf8 z) big
  have hbl' : (bytesOf n (sizeOf8 z) big).length ≤ 8 := by omega
  clear h8 hbl
  unfold WS.num
  by_cases hz : 1 ≤ z ∧ z ≤ 8
  · rw [if_pos hz]
    have HZ := Lib.hid hz
    clear hz
    go_enter Try.func29, Try.ntmps29
    go_wp2_with fail
    refine (sized_yes _ HZ.out.1 HZ.out.2 _).mono ?_
    rintro e w1 ⟨rfl, rfl⟩
    go_wp2_with fail
    refine (put_any n z big _).mono ?_
    rintro e w1 ⟨u, rfl, hown, hb⟩
    obtain ⟨A1, m1, c1, rfl, hm1, _, _, hr⟩ := hown.sl
    subst hm1
    go_wp2_with fail
    refine (wbytes_any (h.below hb) c1 hr (by omega)).mono ?_
    rintro e w2 ⟨v', rfl, h2, k2⟩
    go_wp2_with fail
    go_end0
    exact ⟨v', rfl, h2, ((WKeep.refl w P v).below hb (Nat.le_refl _)).trans k2⟩
  · rw [if_neg hz]
    have HZ := Lib.hid hz
    clear hz
    go_enter Try.func29, Try.ntmps29
    go_wp2_with fail
    refine (sized_no _ (by have := HZ.out; omega) _).mono ?_
    rintro e w1 ⟨rfl, rfl⟩
    go_wp2_with fail
    refine (wfail_any h 1).mono ?_
    rintro e w1 ⟨rfl, h1, g1⟩
    have hys : (s.fail 1).ys = s.ys := by unfold WS.fail; split <;> rfl
    have HY := Lib.hid hys
    clear hys
    go_wp2_with fail
    refine (put_any n z big _).mono ?_
    rintro e w2 ⟨u, rfl, hown, hb⟩
    obtain ⟨A1, m1, c1, rfl, hm1, _, _, hr⟩ := hown.sl
    subst hm1
    go_wp2_with fail
    refine (wbytes_any (h1.below hb) c1 hr (by rw [HY.out]; omega)).mono ?_
    rintro e w3 ⟨v', rfl, h3, k3⟩
    rw [WS.put_bad (WS.fail_f (by decide))] at h3
    go_wp2_with fail
    go_end0
    exact ⟨v', rfl, h3, ((WKeep.grown g1 v).below hb (Nat.le_refl _)).trans k3⟩

set_option maxRecDepth 100000 in
set_option maxHeartbeats 1000000 in
theorem wtext_any {w : World} {P : Nat} {v : Value} {s : WS} (h : Wtr w P v s) {A : Option Addr} {len : Nat} (cap : Nat) {bs : List UInt8} (hr : Rd w P A len bs) (hlen : s.ys.length + bs.length ≤ 900000000) :
    Calls Try.prog 33 #[.pointer (some ⟨P, 0, none⟩), .slice A len cap] w (Wrote w P v (s.put (uvarint bs.length ++ bs))) := by
  have HL := Lib.hid hr.len
  have hl2 : bs.length ≤ 900000000 := by omega
  have hlb : (len : Int) ≤ 900000000 := by have := hr.len; omega
  have h10 := uvarint_length64 (show bs.length < 18446744073709551616 by omega)
  have HV := Lib.hid (fun W => vput_any len (by have := hr.len; omega) W)
  have hU : uvarint bs.length = uvarint len := by rw [hr.len]
  rw [hU] at h10 ⊢
  clear hU
  obtain ⟨U, hU⟩ : ∃ U, uvarint len = U := ⟨_, rfl⟩
  rw [hU] at h10 HV ⊢
  clear hU
  by_cases hf : s.f = 0
  · by_cases hl : s.room < (U ++ bs).length
    · rw [WS.put_long hf hl]
      have HF := Lib.hid hf
      have hl' : s.room < U.length + len := by rw [← hr.len, ← List.length_append]; exact hl
      clear hf hl
      go_enter Try.func33, Try.ntmps33
      go_wp2_with fail
      refine Calls.mono (HV.out _) ?_
      rintro e w1 ⟨u, rfl, hown, hb⟩
      obtain ⟨A1, m1, c1, rfl, hm1, _, _, hr1⟩ := hown.sl
      subst hm1
      go_wp2_with fail
      refine (fits_no (h.below hb) HF.out (U.length + len) hl').mono ?_
      rintro e w2 ⟨rfl, h2, g2⟩
      go_wp2_with fail
      go_end0
      exact ⟨v, rfl, h2, ((WKeep.refl w P v).below hb (Nat.le_refl _)).trans (WKeep.grown g2 v)⟩
    · rw [WS.put_fits hf hl]
      have HF := Lib.hid hf
      have hl' : U.length + len ≤ s.room := by rw [← hr.len, ← List.length_append]; omega
      have hle := h.le
      have hroom : (s.ys ++ (U ++ bs)).length ≤ s.m := by rw [List.length_append]; unfold WS.room at hl; omega
      have HR := Lib.hid hroom
      clear hf hl hroom
      go_enter Try.func33, Try.ntmps33
      go_wp2_with fail
      refine Calls.mono (HV.out _) ?_
      rintro e w1 ⟨u, rfl, hown, hb⟩
      obtain ⟨A1, m1, c1, rfl, hm1, _, _, hr1⟩ := hown.sl
      subst hm1
      have h1 := h.below hb
      have hrb := hr.below (hb.mono (Nat.le_of_lt h.lt))
      go_wp2_with fail
      refine (fits_yes h1 HF.out (U.length + len) hl').mono ?_
      rintro e w2 ⟨rfl, k, rfl⟩
      have h2 := h1.drewN k
      have c1' := h2.c1
      have hP := h2.lt
      have hr2 := hrb.drewN k
      go_wp2_with (first
        | (at_builtin; refine wpList_append8 (o := ⟨some 22, _, _, _, _, _⟩) rfl _ _ rfl (P + 1) _ s.ys (by rfl) h2.own _ _ _ _ U (by rfl) (hr1.drewN k) (by omega) (by omega) ?_; intro v3 w3 hown3 hgrow3 hob3; have d0 := h2.blk_app hgrow3; have hr3 := rd_app hr2 (Nat.le_of_lt hP) hgrow3 (fun g hg => by have := h2.own.lt g hg; omega))
        | (at_builtin; refine wpList_append8 (o := ⟨some 24, _, _, _, _, _⟩) rfl _ _ rfl (P + 1) _ (s.ys ++ U) (by rfl) hown3 _ _ _ _ bs (by rfl) hr3 (by rw [List.length_append]; have := HL.out; omega) (by have := hgrow3.size; omega) ?_; intro v4 w4 hown4 hgrow4 hob4; obtain ⟨A9, m9, c9, rfl, hm9, _, _, hr9⟩ := hown4.sl; have HM := Lib.hid hm9; clear hm9 hr9; have d4 := (hgrow4.block P (by have := hgrow3.size; omega) (fun e => by have := hown3.lt P e.symm; omega)).trans d0; have d1 : w4.cell? ⟨P, 1, none⟩ = some v := (by rw [cell_of_row w4 P 1 _ _ (0, 0) d4]; rfl); have z1 : w4.frozen? ⟨P, 1, none⟩ = false := (by simp [World.frozen?, d4])))
      go_end0
      rw [List.append_assoc] at hown4
      exact ⟨_, rfl, blk_stored d4 hown4 HR.out h.big, (((((WKeep.refl w P v).below hb (Nat.le_refl _)).trans (WKeep.grown (gb_drewN (World.grownBy.refl w1 (some P)) k) v)).trans (WKeep.app hgrow3 hob3)).trans (WKeep.app hgrow4 hob4)).trans (WKeep.grown (gb_set (World.grownBy.refl w4 (some P)) 1 _) _)⟩
  · rw [WS.put_bad hf]
    have HF := Lib.hid hf
    clear hf
    go_enter Try.func33, Try.ntmps33
    go_wp2_with fail
    refine Calls.mono (HV.out _) ?_
    rintro e w1 ⟨u, rfl, hown, hb⟩
    obtain ⟨A1, m1, c1, rfl, hm1, _, _, hr1⟩ := hown.sl
    subst hm1
    go_wp2_with fail
    refine (fits_bad (h.below hb) HF.out (U.length + len)).mono ?_
    rintro e w2 ⟨rfl, h2, g2⟩
    go_wp2_with fail
    go_end0
    exact ⟨v, rfl, h2, ((WKeep.refl w P v).below hb (Nat.le_refl _)).trans (WKeep.grown g2 v)⟩

set_option maxRecDepth 100000 in
set_option maxHeartbeats 1000000 in
/-- Out, without a fault. -/
theorem out_ok {w : World} {P : Nat} {v : Value} {s : WS} (h : Wtr w P v s) (hf : s.f = 0) (hlen : s.ys.length ≤ 1000000000) :
    Calls Try.prog 35 #[.pointer (some ⟨P, 0, none⟩)] w fun e w' => ∃ u, e = .returned (.tuple #[u, .int .i64 0]) ∧ Own8 w' w.heap.size u s.ys ∧ Below w.heap.size w w' := by
  have c1 := h.c1
  have c2 := h.c2
  rw [hf] at c2
  obtain ⟨A1, m1, k1, rfl, hm1, _, _, hr1⟩ := h.own.sl
  subst hm1
  clear hf
  go_enter Try.func35, Try.ntmps35
  go_wp2_with fail
  refine (clone_any A1 _ k1 s.ys hlen _ hr1).mono ?_
  rintro e w1 ⟨u, rfl, hown, hb⟩
  go_wp2_with fail
  go_ret2
  exact ⟨u, rfl, hown, hb⟩
set_option maxRecDepth 100000 in
set_option maxHeartbeats 1000000 in
/-- Out, with a fault. -/
theorem out_bad {w : World} {P : Nat} {v : Value} {s : WS} (h : Wtr w P v s) (hf : s.f ≠ 0) :
    Calls Try.prog 35 #[.pointer (some ⟨P, 0, none⟩)] w fun e w' => e = .returned (.tuple #[.slice none 0 0, .int .i64 (s.f : Int)]) ∧ Below w.heap.size w w' := by
  have c2 := h.c2
  have hb : ((s.f : Int) != 0) = true := bne_iff_ne.2 (by omega)
  have hb' : (s.f != 0) = true := bne_iff_ne.2 hf
  clear hf
  go_enter Try.func35, Try.ntmps35
  go_wp2_with fail
  go_quiet (fail)
  go_wp2_with fail
  go_ret2
  exact ⟨rfl, below_drewN (Below.refl _ _) _⟩
end Go.Proofs.Ytghocjigmcdobaa
