/-
  The document's answer of layer 6 for changed texts: Changed.
-/
import Derived.Test.YtdfjdkbnbiglnaaIRef2
import Derived.Test.YtdfjdkbnbiglnaaFrame
namespace Go.Proofs.Ytdfjdkbnbiglnaa
open Go.RowKit Go.Lib

theorem Own8.form {w : World} {base : Nat} {v : Value} {xs : List UInt8} (h : Own8 w base v xs) {n : Nat} (hn : xs.length = n) : ∃ A c, v = .slice A n c ∧ n ≤ c ∧ c ≤ maxLen ∧ Rd w w.heap.size A n xs := by
  subst hn
  obtain ⟨A, c, e, h1, h2, h3, _⟩ := h.rd
  exact ⟨A, c, e, h1, h2, h3⟩
theorem RdI.drewN {w : World} {B n : Nat} {A : Option Addr} {xs : List Nat} (h : RdI w B A n xs) (k : Nat) : RdI (w.drewN k) B A n xs := h
/-- Two slice values that lie in blocks of their own. -/
def Apart (u v : Value) : Prop := u.ownBlock = none ∨ u.ownBlock ≠ v.ownBlock
theorem Apart.sym {u v : Value} (h : Apart u v) : Apart v u := by
  rcases h with h | h
  · cases e : v.ownBlock with
    | none => exact .inl e
    | some g => exact .inr (by rw [h, e]; simp)
  · exact .inr (fun e => h e.symm)
theorem Own8.old {w : World} {base : Nat} {v : Value} {xs : List UInt8} (h : Own8 w base v xs) {g : Nat} (hg : w.heap.size ≤ g) : v.ownBlock ≠ some g := fun e => by
  have := (World.ownsRow.lt h g e).2; omega
/-- What is appended to stays apart. -/
theorem Apart.more {w : World} {base : Nat} {u v v' : Value} {xs : List UInt8} (h : Apart u v) (hu : Own8 w base u xs) {g : Nat} (hg : w.heap.size ≤ g) (hv : v'.ownBlock = v.ownBlock ∨ v'.ownBlock = some g) : Apart u v' := by
  rcases hv with e | e
  · unfold Apart; rw [e]; exact h
  · right
    rw [e]
    exact hu.old hg

set_option maxRecDepth 100000 in
set_option maxHeartbeats 4000000 in
/-- The reference's Changed. -/
theorem rchanged_any (c : Nat) (hc : c < 65536) (A : Option Addr) (len cap : Nat) (xs : List UInt8) (hlen : len ≤ 10000) (A' : Option Addr) (len' cap' : Nat) (ys : List UInt8) (hlen' : len' ≤ 10000) (w : World) {B : Nat} (hI : Rd w B A len xs) (hI' : Rd w B A' len' ys) (hBw : B ≤ w.heap.size) :
    Calls Try.prog 16 #[.int .i64 (c : Int), .slice A len cap, .slice A' len' cap'] w fun e w' => e = .returned (.int .i64 ((changedOf c xs ys : Nat) : Int)) ∧ Below w.heap.size w w' := by
  have hL := hI.len
  have hL' := hI'.len
  unfold changedOf
  rw [hL, hL']
  obtain ⟨M, hM⟩ : ∃ M, max len len' = M := ⟨_, rfl⟩
  have hM1 : len ≤ M := by omega
  have hM2 : len' ≤ M := by omega
  have hMl : M ≤ 10000 := by omega
  have hMm : M = len ∨ M = len' := by omega
  rw [hM]
  obtain ⟨R, hR⟩ : ∃ R, chgs c (wordsOf (padTo xs M)) (wordsOf (padTo ys M)) = R := ⟨_, rfl⟩
  rw [hR]
  have HR := Lib.hid hR
  have HL := Lib.hid hL
  have HL' := Lib.hid hL'
  clear hR hM hL hL'
  have how := empty8 (base := w.heap.size) w (Nat.le_refl _)
  go_enter Try.func16, Try.ntmps16
  go_wp2_with (first
    | (at_builtin; refine wpList_append8 (o := ⟨some 14, _, _, _, _, _⟩) rfl _ _ rfl w.heap.size _ [] (by rfl) how _ _ _ _ xs (by rfl) (hI.alloc hBw _) (by simp; omega) (by simp) ?_; intro v1 w1 ho1 hg1 _; rw [List.nil_append] at ho1; have hb1 := ((Below.refl w.heap.size w).alloc (Nat.le_refl _) (.cells #[] 5)).grown hg1 (by simp) how.lt; have z1 := hb1.size; obtain ⟨A1, c1, rfl, _, _, _⟩ := ho1.form HL.out; have how2 := empty8 (base := w1.heap.size) w1 (Nat.le_refl _))
    | (at_builtin; refine wpList_append8 (o := ⟨some 17, _, _, _, _, _⟩) rfl _ _ rfl w1.heap.size _ [] (by rfl) how2 _ _ _ _ ys (by rfl) ((hI'.below (hb1.mono hBw)).alloc (Nat.le_trans hBw z1) _) (by simp; omega) (by simp) ?_; intro v2 w2 ho2 hg2 _; rw [List.nil_append] at ho2; have hb2 := ((Below.refl w1.heap.size w1).alloc (Nat.le_refl _) (.cells #[] 5)).grown hg2 (by simp) how2.lt; obtain ⟨A2, c2, rfl, _, _, _⟩ := ho2.form HL'.out))
  have hap : Apart (.slice A1 len c1) (.slice A2 len' c2) := by
    cases e : (Value.slice A1 len c1).ownBlock with
    | none => exact .inl e
    | some g => exact .inr (fun e2 => by rw [e] at e2; have h1 := ho2.lt g e2.symm; exact ho1.old h1 e)
  have ho1' := ho1.below hb2
  have B2 := hb1.trans (hb2.mono z1)
  have z2 := B2.size
  have ho2' := ho2.base_le z1
  clear ho1 ho2 hg1 hg2 hb1 hb2 how how2
  have ho1p : Own8 w2 w.heap.size (.slice A1 len c1) (padTo xs len) := by rw [← HL.out, padTo_self, HL.out]; exact ho1'
  clear ho1'
  go_loopw [7] (fun v wr => ∃ (m : Nat) (A1 : Option Addr) (c1 : Nat), len ≤ m ∧ m ≤ M ∧ v = .slice A1 m c1 ∧ Own8 wr w.heap.size (.slice A1 m c1) (padTo xs m) ∧ Own8 wr w.heap.size (.slice A2 len' c2) ys ∧ Apart (.slice A1 m c1) (.slice A2 len' c2) ∧ Below w.heap.size w wr)
    (fun v _ => M - lenOf8 v)
  case atStart => exact ⟨len, A1, c1, Nat.le_refl _, hM1, rfl, ho1p, ho2', hap, B2⟩
  case round =>
    clear hap ho1p ho2' B2
    obtain ⟨m, A1, c1, hm1, hm2, rfl, hoa, hob, hap, B3⟩ := hrel
    have z3 := B3.size
    by_cases hlt : m < len'
    · have hlt' : (m : Int) < (len' : Int) := by omega
      have hpl : (padTo xs m).length = m := padTo_len (by rw [HL.out]; exact hm1)
      have hpm := padTo_more (xs := xs) (M := m) (by rw [HL.out]; exact hm1)
      have HP := Lib.hid hpm
      have HPL := Lib.hid hpl
      clear hpm hpl
      go_wp2_with (at_builtin; refine wpList_append8 rfl _ _ rfl w.heap.size _ (padTo xs m) (by rfl) (hoa.alloc _) _ _ _ _ [0] (by rfl) (Rd.one wr 0) (by have := HPL.out; omega) (by simp; omega) ?_; intro v' w3 ho' hg' hv')
      have hb3 := (B3.alloc z3 (.cells #[.int .u8 ((0 : UInt8).toNat : Int)] 5)).grown hg' (by simp; omega) hoa.lt
      rw [← HP.out] at ho'
      obtain ⟨A3, c3, rfl, _, _, _⟩ := ho'.form (n := m + 1) (padTo_len (by rw [HL.out]; omega))
      have hob' := (hob.alloc (.cells #[.int .u8 ((0 : UInt8).toNat : Int)] 5)).kept hg' hap.sym
      have hap' := (hap.sym.more (hob.alloc (.cells #[.int .u8 ((0 : UInt8).toNat : Int)] 5)) (Nat.le_refl _) hv').sym
      go_wp2_with fail
      go_roundw
      case rel => exact ⟨m + 1, A3, c3, by omega, by omega, rfl, ho', hob', hap', hb3⟩
      case measure => simp [lenOf8]; omega
    · have hlt' : ¬ (m : Int) < (len' : Int) := by omega
      obtain rfl : m = M := by omega
      clear hI hI' hlt
      have hpa : (padTo xs m).length = m := padTo_len (by rw [HL.out]; exact hm1)
      have HPA := Lib.hid hpa
      clear hpa
      go_wp2_with fail
      have hob2 : Own8 wr w.heap.size (.slice A2 len' c2) (padTo ys len') := by rw [← HL'.out, padTo_self, HL'.out]; exact hob
      go_loopw [8] (fun v wr => ∃ (m' : Nat) (A2 : Option Addr) (c2 : Nat), len' ≤ m' ∧ m' ≤ m ∧ v = .slice A2 m' c2 ∧ Own8 wr w.heap.size (.slice A2 m' c2) (padTo ys m') ∧ Own8 wr w.heap.size (.slice A1 m c1) (padTo xs m) ∧ Apart (.slice A1 m c1) (.slice A2 m' c2) ∧ Below w.heap.size w wr)
        (fun v _ => m - lenOf8 v)
      case atStart => exact ⟨len', A2, c2, Nat.le_refl _, hM2, rfl, hob2, hoa, hap, B3⟩
      case round =>
        clear hap hoa hob hob2 B3 z3
        obtain ⟨m', A2, c2, hn1, hn2, rfl, hob, hoa, hap, B3⟩ := hrel
        have z3 := B3.size
        by_cases hlt : m' < m
        · have hlt' : (m' : Int) < (m : Int) := by omega
          have hpl : (padTo ys m').length = m' := padTo_len (by rw [HL'.out]; exact hn1)
          have hpm := padTo_more (xs := ys) (M := m') (by rw [HL'.out]; exact hn1)
          have HP := Lib.hid hpm
          have HPL := Lib.hid hpl
          clear hpm hpl
          go_wp2_with (at_builtin; refine wpList_append8 rfl _ _ rfl w.heap.size _ (padTo ys m') (by rfl) (hob.alloc _) _ _ _ _ [0] (by rfl) (Rd.one wr 0) (by have := HPL.out; omega) (by simp; omega) ?_; intro v' w3 ho' hg' hv')
          have hb3 := (B3.alloc z3 (.cells #[.int .u8 ((0 : UInt8).toNat : Int)] 5)).grown hg' (by simp; omega) hob.lt
          rw [← HP.out] at ho'
          obtain ⟨A3, c3, rfl, _, _, _⟩ := ho'.form (n := m' + 1) (padTo_len (by rw [HL'.out]; omega))
          have hoa' := (hoa.alloc (.cells #[.int .u8 ((0 : UInt8).toNat : Int)] 5)).kept hg' hap
          have hap' := hap.more (hoa.alloc (.cells #[.int .u8 ((0 : UInt8).toNat : Int)] 5)) (Nat.le_refl _) hv'
          go_wp2_with fail
          go_roundw
          case rel => exact ⟨m' + 1, A3, c3, by omega, by omega, rfl, ho', hoa', hap', hb3⟩
          case measure => simp [lenOf8]; omega
        · have hlt' : ¬ (m' : Int) < (m : Int) := by omega
          obtain rfl : m' = m := by omega
          have hpb : (padTo ys m').length = m' := padTo_len (by rw [HL'.out]; exact hn1)
          have HPB := Lib.hid hpb
          clear hpb
          obtain ⟨Aa, ca, ea, _, _, ha⟩ := hoa.form HPA.out
          cases ea
          obtain ⟨Ab, cb, eb, _, _, hb⟩ := hob.form HPB.out
          cases eb
          obtain ⟨q, hq⟩ : ∃ q, (m' + 1) / 2 = q := ⟨_, rfl⟩
          have hql : q ≤ 10000 := by omega
          have HWA := Lib.hid (fun W (h : Below wr.heap.size wr W) => rwords_at A1 m' c1 (padTo xs m') (by omega) W (ha.below h) h.size q hq)
          have HWB := Lib.hid (fun W (h : Below wr.heap.size wr W) => rwords_at A2 m' c2 (padTo ys m') (by omega) W (hb.below h) h.size q hq)
          have hxle := wordsOf_le (padTo xs m')
          have hyle := wordsOf_le (padTo ys m')
          obtain ⟨Xs, hXs⟩ : ∃ Xs, wordsOf (padTo xs m') = Xs := ⟨_, rfl⟩
          obtain ⟨Ys, hYs⟩ : ∃ Ys, wordsOf (padTo ys m') = Ys := ⟨_, rfl⟩
          rw [hXs] at hxle HWA HR
          rw [hYs] at hyle HWB HR
          clear hXs hYs hq hlt hn2 hm1 hm2 hMm hoa hob hap ha hb
          go_wp2_with fail
          refine (HWA.out _ (Below.refl _ _)).mono ?_
          rintro e w4 ⟨A4, c4, rfl, hr4, hb4⟩
          have B4 := B3.trans (hb4.mono z3)
          have z4 := hb4.size
          go_wp2_with fail
          refine (HWB.out _ hb4).mono ?_
          rintro e w5 ⟨A5, c5, rfl, hr5, hb5⟩
          have B5 := B4.trans (hb5.mono B4.size)
          have z5 := hb5.size
          have hr4' := hr4.below hb5
          have HX := Lib.hid hr4.len
          have HY := Lib.hid hr5.len
          clear hr4 B4 hb4 hb5 HWA HWB
          go_wp2_with fail
          go_loopw [0, 11] (fun u i wr => ∃ (k S : Nat), k ≤ q ∧ S < 65536 ∧ u = .int .i64 (S : Int) ∧ i = .int .i64 (k : Int) ∧ chgs S (Xs.drop k) (Ys.drop k) = R ∧ RdI wr w4.heap.size A4 q Xs ∧ RdI wr w5.heap.size A5 q Ys ∧ Below w.heap.size w wr)
            (fun _ i _ => q - (intOf i).toNat)
          case atStart => exact ⟨0, c, by omega, hc, rfl, rfl, by rw [List.drop_zero, List.drop_zero]; exact HR.out, hr4', hr5, B5⟩
          case round =>
            clear hr4' hr5 B5
            obtain ⟨k, S, hk, hS, rfl, rfl, hs, hr4, hr5, B6⟩ := hrel
            by_cases hlt : k < q
            · have hlt' : (k : Int) < (q : Int) := by omega
              obtain ⟨b1, off1, rfl, hb1⟩ := hr4.addr (by omega)
              obtain ⟨b2, off2, rfl, hb2⟩ := hr5.addr (by omega)
              obtain ⟨x, hx⟩ : ∃ x, Xs[k]? = some x := ⟨_, List.getElem?_eq_getElem (by rw [HX.out]; exact hlt)⟩
              obtain ⟨y, hy⟩ : ∃ y, Ys[k]? = some y := ⟨_, List.getElem?_eq_getElem (by rw [HY.out]; exact hlt)⟩
              have hcx := hr4.cell hx
              have hcy := hr5.cell hy
              have hxl := hxle x (List.mem_of_getElem? hx)
              have hyl := hyle y (List.mem_of_getElem? hy)
              rw [dropN_at hx, dropN_at hy, chgs_cons] at hs
              have hcl := chg_le S x y
              have HQ := Lib.hid hs
              have HC := Lib.hid (rchange_any S x y hS (by omega) (by omega))
              clear hs hx hy
              go_wp2_with fail
              go_quiet ((go_at_call 14; exact quiet_same (HC.out _)))
              go_wp2_with fail
              go_roundw
              case rel => exact ⟨k + 1, chg S x y, by omega, by omega, rfl, by go_num, HQ.out, hr4.drewN _, hr5.drewN _, below_drewN B6 _⟩
              case measure => simp [intOf]; omega
            · obtain rfl : k = q := by omega
              rw [List.drop_of_length_le (by rw [HX.out]; omega), chgs_nil] at hs
              have HQ := Lib.hid hs
              clear hs
              go_wp2_with fail
              go_ret
              rw [← HQ.out]
              exact ⟨rfl, B6⟩
end Go.Proofs.Ytdfjdkbnbiglnaa
