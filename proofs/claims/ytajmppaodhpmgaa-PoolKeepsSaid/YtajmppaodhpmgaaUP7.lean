/-
  What strings.Compare tells, in the words of bytesLess (split from VP1). No program is walked here.
  The library's contract of strings.Compare, laid at this seat's program: a table of numbers, each field a fact of the program's own.
  The program: the place of a name in a list that rises (slices.BinarySearchFunc).
-/
import Derived.Test.YtajmppaodhpmgaaLess
import Derived.Shelf.Small.Strs
import Derived.Test.YtajmppaodhpmgaaProg
import Derived.Test.YtajmppaodhpmgaaURef8
import Derived.Test.YtajmppaodhpmgaaURight
namespace Go.Proofs.Ytajmppaodhpmgaa
open Go.RowKit Go.Lib

theorem cmp_less : ∀ a b : List UInt8, decide (Lib.compareBytes a b < 0) = Op.bytesLess a b
  | [], [] => rfl
  | [], _ :: _ => rfl
  | _ :: _, [] => rfl
  | a :: r, b :: t => by
    unfold Lib.compareBytes Op.bytesLess
    by_cases h : a < b
    · rw [if_pos h, decide_eq_true h]
      rfl
    · rw [if_neg h, decide_eq_false h, Bool.false_or]
      by_cases h2 : b < a
      · rw [if_pos h2]
        have h3 : (a == b) = false := by
          apply Bool.eq_false_iff.2
          intro h4
          rw [beq_iff_eq] at h4
          subst h4
          exact absurd h2 (UInt8.lt_irrefl a)
        rw [h3]
        rfl
      · rw [if_neg h2, cmp_less r t]
        have h3 : a = b := by
          rcases Decidable.em (a = b) with h4 | h4
          · exact h4
          · rcases UInt8.lt_or_lt_of_ne h4 with h5 | h5
            · exact absurd h5 h
            · exact absurd h5 h2
        subst h3
        simp
theorem cmp_zero : ∀ {a b : List UInt8}, Lib.compareBytes a b = 0 → a = b
  | [], [], _ => rfl
  | [], _ :: _, h => by unfold Lib.compareBytes at h; cases h
  | _ :: _, [], h => by unfold Lib.compareBytes at h; cases h
  | a :: r, b :: t, h => by
    unfold Lib.compareBytes at h
    by_cases h1 : a < b
    · rw [if_pos h1] at h
      cases h
    · rw [if_neg h1] at h
      by_cases h2 : b < a
      · rw [if_pos h2] at h
        cases h
      · rw [if_neg h2] at h
        have h3 : a = b := by
          rcases Decidable.em (a = b) with h4 | h4
          · exact h4
          · rcases UInt8.lt_or_lt_of_ne h4 with h5 | h5
            · exact absurd h5 h1
            · exact absurd h5 h2
        rw [h3, cmp_zero h]
theorem cmp_same : ∀ a : List UInt8, Lib.compareBytes a a = 0
  | [] => rfl
  | a :: r => by
    unfold Lib.compareBytes
    rw [if_neg (UInt8.lt_irrefl a), if_neg (UInt8.lt_irrefl a)]
    exact cmp_same r
end Go.Proofs.Ytajmppaodhpmgaa
namespace Go.Proofs.Ytajmppaodhpmgaa
open Go.Shelf
def strCmp_ren : Go.Shelf.Ren := ⟨fun | 106 => 59 | 213 => 63 | 265 => 67 | n => n, fun | 9 => 9 | 3 => 3 | n => n, fun | n => n⟩
theorem strCmp : Go.Proofs.Lays.n106 Try.prog strCmp_ren := {
  mixed := by kernel_rfl
  f106 := Try.func59.trans (congrArg some (by kernel_rfl))
  f213 := Try.func63.trans (congrArg some (by kernel_rfl))
  f265 := Try.func67.trans (congrArg some (by kernel_rfl))
  t3 := Try.underlying3
  a3 := Try.isAgg3
  z3 := Try.sizeOf3
  v3 := Try.zeroValue3
  t9 := Try.underlying9
  a9 := Try.isAgg9
  z9 := Try.sizeOf9
  v9 := Try.zeroValue9 }
theorem pcompare_any (a b : List UInt8) (w : World) : Calls Try.prog 59 #[.string ⟨a.toArray⟩, .string ⟨b.toArray⟩] w fun e w' => e = .returned (.int .i64 (Lib.compareBytes a b)) ∧ w = w' :=
  (Any.strings_Compare strCmp ⟨a.toArray⟩ ⟨b.toArray⟩ w).mono fun _ _ h => ⟨h.1, h.2.symm⟩
end Go.Proofs.Ytajmppaodhpmgaa
namespace Go.Proofs.Ytajmppaodhpmgaa
set_option maxRecDepth 100000
open Go.RowKit Go.Lib

/-- i is where the name is, or would be; f: it is there. -/
structure PlaceAt (l : List Bk) (s : List UInt8) (i : Nat) (f : Bool) : Prop where
  le : i ≤ l.length
  low : ∀ j a, j < i → l[j]? = some a → Op.bytesLess a.nm s = true
  top : ∀ j a, i ≤ j → l[j]? = some a → Op.bytesLess a.nm s = false
  yes : f = true → ∃ b, l[i]? = some b ∧ b.nm = s
  no : f = false → ∀ b, l[i]? = some b → b.nm ≠ s
theorem rise_at {l : List Bk} (h : RiseB l) {i j : Nat} {a b : Bk} (ha : l[i]? = some a) (hb : l[j]? = some b) (hij : i < j) : Op.bytesLess a.nm b.nm = true := by
  obtain ⟨h1, e1⟩ := List.getElem?_eq_some_iff.1 ha
  obtain ⟨h2, e2⟩ := List.getElem?_eq_some_iff.1 hb
  have := List.pairwise_iff_getElem.1 h i j h1 h2 hij
  rwa [e1, e2] at this
theorem PlaceAt.find {l : List Bk} {s : List UInt8} {i : Nat} (hr : RiseB l) (h : PlaceAt l s i true) : ∃ b, l[i]? = some b ∧ b.nm = s ∧ findB l s = some b := by
  obtain ⟨b, hb, hs⟩ := h.yes rfl
  refine ⟨b, hb, hs, ?_⟩
  rw [← hs]
  exact find_of hr (List.mem_of_getElem? hb)
theorem PlaceAt.none {l : List Bk} {s : List UInt8} {i : Nat} (hr : RiseB l) (h : PlaceAt l s i false) : findB l s = none := by
  refine find_no fun b hb e => ?_
  obtain ⟨j, hj⟩ := List.getElem?_of_mem hb
  by_cases h1 : j < i
  · have := h.low j b h1 hj
    rw [e, less_irr] at this
    cases this
  · by_cases h2 : j = i
    · subst h2
      exact h.no rfl b hj e
    · obtain ⟨c, hc⟩ : ∃ c, l[i]? = some c := ⟨_, List.getElem?_eq_getElem (by have := (List.getElem?_eq_some_iff.1 hj).1; omega)⟩
      have h3 := rise_at hr hc hj (by omega)
      rw [e] at h3
      rw [h.top i c (Nat.le_refl _) hc] at h3
      cases h3
def PlaceGave (w : World) (l : List Bk) (s : List UInt8) (e : Ending) (w' : World) : Prop := ∃ (i : Nat) (f : Bool), e = .returned (.tuple #[.int .i64 (i : Int), .bool f]) ∧ PlaceAt l s i f ∧ Below w.heap.size w w'
theorem pcmpB_any (x : Bk) (s : List UInt8) (w : World) : Calls Try.prog 58 #[.agg (bkL x).toArray, .string ⟨s.toArray⟩] w fun e w' => e = .returned (.int .i64 (Lib.compareBytes x.nm s)) ∧ Below w.heap.size w w' := by
  obtain ⟨Y, hY⟩ : ∃ Y, w.alloc (.cells (bkL x).toArray 36) = Y := ⟨_, rfl⟩
  have hT : Blk Y 36 w.heap.size (bkL x) := by rw [← hY]; exact Blk_10.new w _ _
  have hB : Below w.heap.size w Y := by rw [← hY]; exact (Below.refl w.heap.size w).alloc (Nat.le_refl _) _
  have q0 : Y.cell? ⟨w.heap.size, 0, none⟩ = some (.string ⟨x.nm.toArray⟩) := Blk_10.cell hT (bk_nm x)
  have HC := Lib.hid (fun W => pcompare_any x.nm s W)
  generalize Lib.compareBytes x.nm s = r at HC ⊢
  obtain ⟨L, hL⟩ : ∃ L, (bkL x).toArray = L := ⟨_, rfl⟩
  rw [hL]
  rw [hL] at hY
  rw [← hY] at q0 hB
  have HB := Lib.hid hB
  clear hT hB hL hY
  go_enter Try.func58, Try.ntmps58
  go_wp2_with (go_at_call 59; refine (HC.out _).mono ?_; rintro e w' ⟨rfl, rfl⟩)
  go_ret
  exact ⟨rfl, HB.out⟩
set_option maxHeartbeats 8000000 in
theorem psearch_any {A : Option Addr} {n B : Nat} (c : Nat) {l : List Bk} (hr : RiseB l) (hn : n ≤ 1000000) (s : List UInt8) (w : World) (hB : B ≤ w.heap.size) (h : RdG eB w B A n l) :
    Calls Try.prog 57 #[.slice A n c, .string ⟨s.toArray⟩, .func (.func 58) #[] #[]] w (PlaceGave w l s) := by
  have HX := Lib.hid h
  have HL := Lib.hid h.len
  have HBB := Lib.hid hB
  have HNN := Lib.hid hn
  have HR := Lib.hid hr
  clear h hB hr
  go_enter Try.func57, Try.ntmps57
  go_wp2_with fail
  go_loopw [9, 10] (fun v9 v10 wr => ∃ i j : Nat, i ≤ j ∧ j ≤ n ∧ v9 = .int .i64 (i : Int) ∧ v10 = .int .i64 (j : Int) ∧ Hid (∀ k a, k < i → l[k]? = some a → Op.bytesLess a.nm s = true) ∧ Hid (∀ k a, j ≤ k → l[k]? = some a → Op.bytesLess a.nm s = false) ∧ Below w.heap.size w wr) (fun v9 v10 _ => (RowKit.intOf v10).toNat - (RowKit.intOf v9).toNat)
  case atStart => exact ⟨0, n, Nat.zero_le _, Nat.le_refl _, rfl, rfl, Lib.hid (fun k a h => absurd h (by omega)), Lib.hid (fun k a h1 h2 => by have := (List.getElem?_eq_some_iff.1 h2).1; rw [HL.out] at this; omega), Below.refl _ _⟩
  case round =>
    obtain ⟨i, j, hij, hjn, rfl, rfl, HLow, HTop, hw⟩ := hrel
    have HW := Lib.hid hw
    clear hw
    by_cases hlt : i < j
    · have h1 : (i : Int) < (j : Int) := by omega
      obtain ⟨m, hm⟩ : ∃ m, (i + j) / 2 = m := ⟨_, rfl⟩
      have hmi : i ≤ m := by omega
      have hmj : m < j := by omega
      have k1 : IntKind.i64.wrap ((i : Int) + (j : Int)) = (i : Int) + (j : Int) := by rw [IntKind.wrap_i64]; omega
      have k2 : ((i : Int) + (j : Int)) / 2 = (m : Int) := by omega
      have hmn : (m : Int) < (n : Int) := by omega
      have hm0 : (0 : Int) ≤ (m : Int) := by omega
      have hm9 : m < 9223372036854775807 := by have := HNN.out; omega
      obtain ⟨b, off, rfl, _⟩ := HX.out.addr (by omega)
      obtain ⟨x, hx⟩ : ∃ x, l[m]? = some x := ⟨_, List.getElem?_eq_getElem (by rw [HL.out]; omega)⟩
      have HXX := Lib.hid hx
      have RX := Lib.hid ((HX.out.below (HW.out.mono HBB.out)).range hx)
      have HC := Lib.hid (fun W => pcmpB_any x s W)
      obtain ⟨LX, hLX⟩ : ∃ L, (bkL x).toArray = L := ⟨_, rfl⟩
      rw [hLX] at HC
      have HLX := Lib.hid hLX
      have hls := cmp_less x.nm s
      generalize Lib.compareBytes x.nm s = r at HC hls
      have HMI := Lib.hid hmi
      have HMJ := Lib.hid hmj
      have HJN := Lib.hid hjn
      by_cases hr0 : r < 0
      · have HLess : Hid (Op.bytesLess x.nm s = true) := Lib.hid (by rw [← hls, decide_eq_true hr0])
        clear hLX hx hm hij hjn hmi hmj hls hlt
        go_wp2_with (first
          | ((with_reducible show wpList _ _ _ (⟨some 28, _, _, _, _, _⟩ :: _) _ _); refine wpList_loadBk (op := ⟨some 28, _, _, _, _, _⟩) _ rfl (by rfl) b (off + m * 27) (by rfl) x RX.out _ HLX.out ?_)
          | (go_at_call 58; refine (HC.out _).mono ?_; rintro e w5 ⟨rfl, hb5⟩; have HW5 := Lib.hid (HW.out.trans (hb5.mono HW.out.size)); clear hb5))
        go_roundw
        case rel => exact ⟨m + 1, j, HMJ.out, HJN.out, by go_num, rfl, Lib.hid (fun k a hk ha => by
          by_cases e : k = m
          · subst e
            rw [HXX.out] at ha
            cases ha
            exact HLess.out
          · exact less_trans (rise_at HR.out ha HXX.out (by omega)) HLess.out), HTop, HW5.out⟩
        case measure =>
          have h8 := HMI.out
          have h9 := HMJ.out
          simp [RowKit.intOf]
          omega
      · have HNot : Hid (Op.bytesLess x.nm s = false) := Lib.hid (by rw [← hls, decide_eq_false hr0])
        clear hLX hx hm hij hjn hmi hmj hls hlt
        go_wp2_with (first
          | ((with_reducible show wpList _ _ _ (⟨some 28, _, _, _, _, _⟩ :: _) _ _); refine wpList_loadBk (op := ⟨some 28, _, _, _, _, _⟩) _ rfl (by rfl) b (off + m * 27) (by rfl) x RX.out _ HLX.out ?_)
          | (go_at_call 58; refine (HC.out _).mono ?_; rintro e w5 ⟨rfl, hb5⟩; have HW5 := Lib.hid (HW.out.trans (hb5.mono HW.out.size)); clear hb5))
        go_roundw
        case rel => exact ⟨i, m, HMI.out, by have h8 := HMJ.out; have h9 := HJN.out; omega, rfl, rfl, HLow, Lib.hid (fun k a hk ha => by
          by_cases e : k = m
          · subst e
            rw [HXX.out] at ha
            cases ha
            exact HNot.out
          · apply Bool.eq_false_iff.2
            intro h9
            have h8 := less_trans (rise_at HR.out HXX.out ha (by omega)) h9
            rw [HNot.out] at h8
            cases h8), HW5.out⟩
        case measure =>
          have h8 := HMI.out
          have h9 := HMJ.out
          simp [RowKit.intOf]
          omega
    · obtain rfl : i = j := by omega
      have h1 : ¬ (i : Int) < (i : Int) := by omega
      have HIN := Lib.hid hjn
      clear hlt hij
      by_cases hin : i < n
      · have h2 : (i : Int) < (n : Int) := by omega
        have hi0 : (0 : Int) ≤ (i : Int) := by omega
        have hi9 : i < 9223372036854775807 := by have := HNN.out; omega
        obtain ⟨b, off, rfl, _⟩ := HX.out.addr (by omega)
        obtain ⟨x, hx⟩ : ∃ x, l[i]? = some x := ⟨_, List.getElem?_eq_getElem (by rw [HL.out]; omega)⟩
        have HXX := Lib.hid hx
        have RX := Lib.hid ((HX.out.below (HW.out.mono HBB.out)).range hx)
        have HC := Lib.hid (fun W => pcmpB_any x s W)
        obtain ⟨LX, hLX⟩ : ∃ L, (bkL x).toArray = L := ⟨_, rfl⟩
        rw [hLX] at HC
        have HLX := Lib.hid hLX
        have hzz : Lib.compareBytes x.nm s = 0 → x.nm = s := cmp_zero
        have hzy : x.nm = s → Lib.compareBytes x.nm s = 0 := fun e => by rw [e, cmp_same]
        generalize Lib.compareBytes x.nm s = r at HC hzz hzy
        by_cases hr0 : r = 0
        · subst hr0
          have HE := Lib.hid (hzz rfl)
          clear hLX hx hjn hzz hzy
          go_wp2_with (first
            | ((with_reducible show wpList _ _ _ (⟨some 44, _, _, _, _, _⟩ :: _) _ _); refine wpList_loadBk (op := ⟨some 44, _, _, _, _, _⟩) _ rfl (by rfl) b (off + i * 27) (by rfl) x RX.out _ HLX.out ?_)
            | (go_at_call 58; refine (HC.out _).mono ?_; rintro e w5 ⟨rfl, hb5⟩; have HW5 := Lib.hid (HW.out.trans (hb5.mono HW.out.size)); clear hb5))
          go_ret2
          exact ⟨i, true, rfl, ⟨by rw [HL.out]; exact HIN.out, HLow.out, HTop.out, fun _ => ⟨x, HXX.out, HE.out⟩, fun h => by cases h⟩, HW5.out⟩
        · have hrb : (r == 0) = false := beq_eq_false_iff_ne.2 hr0
          have HE := Lib.hid (fun e => hr0 (hzy e))
          clear hLX hx hjn hzz hzy hr0
          go_wp2_with (first
            | ((with_reducible show wpList _ _ _ (⟨some 44, _, _, _, _, _⟩ :: _) _ _); refine wpList_loadBk (op := ⟨some 44, _, _, _, _, _⟩) _ rfl (by rfl) b (off + i * 27) (by rfl) x RX.out _ HLX.out ?_)
            | (go_at_call 58; refine (HC.out _).mono ?_; rintro e w5 ⟨rfl, hb5⟩; have HW5 := Lib.hid (HW.out.trans (hb5.mono HW.out.size)); clear hb5))
          go_ret2
          exact ⟨i, false, rfl, ⟨by rw [HL.out]; exact HIN.out, HLow.out, HTop.out, (fun h => by cases h), fun _ b hb => by rw [HXX.out] at hb; cases hb; exact HE.out⟩, HW5.out⟩
      · have h2 : ¬ (i : Int) < (n : Int) := by omega
        obtain rfl : i = n := by omega
        clear hin hjn
        go_wp2_with fail
        go_ret2
        exact ⟨i, false, rfl, ⟨by rw [HL.out]; exact HIN.out, HLow.out, HTop.out, (fun h => by cases h), fun _ b hb => by have := (List.getElem?_eq_some_iff.1 hb).1; rw [HL.out] at this; omega⟩, HW.out⟩
theorem pplace_any {A : Option Addr} {n B : Nat} (c : Nat) {l : List Bk} (hr : RiseB l) (hn : n ≤ 1000000) (s : List UInt8) (w : World) (hB : B ≤ w.heap.size) (h : RdG eB w B A n l) :
    Calls Try.prog 40 #[.slice A n c, .string ⟨s.toArray⟩] w (PlaceGave w l s) := by
  have HS := Lib.hid (psearch_any c hr hn s w hB h)
  clear hr hn hB h
  go_enter Try.func40, Try.ntmps40
  go_wp2_with (go_at_call 57; refine HS.out.mono ?_; rintro e w5 ⟨i, f, rfl, hp, hb5⟩; have HP := Lib.hid hp; have HW5 := Lib.hid hb5; clear hp hb5)
  go_ret2
  exact ⟨i, f, rfl, HP.out, HW5.out⟩
end Go.Proofs.Ytajmppaodhpmgaa
