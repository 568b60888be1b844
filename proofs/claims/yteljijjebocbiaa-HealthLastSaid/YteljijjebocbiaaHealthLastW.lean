/-
  HealthLast: its walk, the program's contracts a premise.
-/
import Derived.Test.YteljijjebocbiaaYLaw
import Derived.BigQuiet
import Derived.Deep.QuietTactic
namespace Go.Proofs.Yteljijjebocbiaa
set_option maxRecDepth 100000
open Go.RowKit Go.Lib

theorem strF_no {rise fall : Int} {last : Option Bool} {sn sl v : Int} {sd b : Bool} (hv : (if last = some b then sn + 1 else 1) = v) (ht : v ≠ if b = true then rise else fall) : strF rise fall ⟨last, sn, sd, sl⟩ b = ⟨some b, v, sd, sl⟩ := by
  unfold strF
  simp only [hv]
  rw [decide_eq_false ht]
  simp
theorem strF_same {rise fall : Int} {last : Option Bool} {sn sl v : Int} {b : Bool} (hv : (if last = some b then sn + 1 else 1) = v) (ht : v = if b = true then rise else fall) : strF rise fall ⟨last, sn, b, sl⟩ b = ⟨some b, v, !b, sl + 1⟩ := by
  unfold strF
  simp only [hv]
  rw [decide_eq_true ht]
  simp
theorem strF_other {rise fall : Int} {last : Option Bool} {sn sl v : Int} {b : Bool} (hv : (if last = some b then sn + 1 else 1) = v) (ht : v = if b = true then rise else fall) : strF rise fall ⟨last, sn, !b, sl⟩ b = ⟨some b, v, !b, sl⟩ := by
  unfold strF
  simp only [hv]
  rw [decide_eq_true ht]
  cases b <;> simp
theorem hl_ext {G : Hl} {s : List UInt8} {d : Bool} {z : Int} (h1 : G.nm = s) (h2 : G.dn = d) (h3 : G.run = z) : G = ⟨s, d, z⟩ := by
  subst h1 h2 h3
  rfl
structure LAt (rise fall : Int) (l : List Bool) (k : Nat) (last : Option Bool) (sn : Int) (sd : Bool) (sl : Int) : Prop where
  str : strL rise fall (l.take k) = ⟨last, sn, sd, sl⟩
  n0 : 0 ≤ sn
  n1 : sn ≤ k
  l0 : 0 ≤ sl
  l1 : sl ≤ k
  first : k = 0 → last = none
  more : ∀ j, k = j + 1 → last = l[j]?
theorem LAt.zero (rise fall : Int) (l : List Bool) : LAt rise fall l 0 none 0 false 0 := ⟨rfl, by omega, by omega, by omega, by omega, fun _ => rfl, fun j h => by omega⟩
theorem LAt.next {rise fall : Int} {l : List Bool} {k : Nat} {last : Option Bool} {sn sl v sl' : Int} {sd sd' b : Bool} (h : LAt rise fall l k last sn sd sl) (hb : l[k]? = some b) (hs : strF rise fall ⟨last, sn, sd, sl⟩ b = ⟨some b, v, sd', sl'⟩) (hv : v = sn + 1 ∨ v = 1) (hl : sl' = sl ∨ sl' = sl + 1) : LAt rise fall l (k + 1) (some b) v sd' sl' := by
  have := h.n0
  have := h.n1
  have := h.l0
  have := h.l1
  refine ⟨?_, by omega, by omega, by omega, by omega, fun h => by omega, fun j hj => ?_⟩
  · have e : l.take (k + 1) = l.take k ++ [b] := by rw [List.take_add_one, hb]; rfl
    rw [e, str_snoc, h.str, hs]
  · obtain rfl : k = j := by omega
    exact hb.symm
set_option maxHeartbeats 16000000 in
theorem healthLast_walkW (S : HealthC) (A : Option Addr) (n c : Nat) (l : List Bool) (hc : n ≤ c) (hm : c ≤ maxLen) (r : Nat) (hr : r < 256) (f : Nat) (hf : f < 256) (w : World) (hI : RdG eT w w.heap.size A n l) :
    Calls Try.prog 5 #[.slice A n c, .int .u8 (r : Int), .int .u8 (f : Int)] w fun e w' => e = .returned (.bool true) ∧ Below w.heap.size w w' := by
  have HB := Lib.hid (Below.refl w.heap.size w)
  have HAW := Lib.hid (fun W => awake_any S W)
  have PR : Hid (∀ W, Below w.heap.size w W → RdG eT W w.heap.size A n l) := Lib.hid (fun W hW => hI.below hW)
  have HLE := Lib.hid hI.len
  obtain ⟨p, hp⟩ : ∃ p : Int, p = ((r % 100 : Nat) : Int) := ⟨_, rfl⟩
  have p0 : 0 ≤ p ∧ p < 100 := by omega
  have hp1 : (r : Int) % 100 = p := by omega
  have hp2 : (r : Int).tmod 100 = p := by rw [Int.tmod_eq_emod_of_nonneg (by omega)]; exact hp1
  have hp3 : IntKind.i64.wrap (1 + p) = 1 + p := by rw [IntKind.wrap_i64]; omega
  have hp4 : IntKind.i64.wrap (r : Int) = (r : Int) := by rw [IntKind.wrap_i64]; omega
  have hp5 : IntKind.i64.wrap p = p := by rw [IntKind.wrap_i64]; omega
  obtain ⟨q, hq⟩ : ∃ p : Int, p = ((f % 100 : Nat) : Int) := ⟨_, rfl⟩
  have q0 : 0 ≤ q ∧ q < 100 := by omega
  have hq1 : (f : Int) % 100 = q := by omega
  have hq2 : (f : Int).tmod 100 = q := by rw [Int.tmod_eq_emod_of_nonneg (by omega)]; exact hq1
  have hq3 : IntKind.i64.wrap (1 + q) = 1 + q := by rw [IntKind.wrap_i64]; omega
  have hq4 : IntKind.i64.wrap (f : Int) = (f : Int) := by rw [IntKind.wrap_i64]; omega
  have hq5 : IntKind.i64.wrap q = q := by rw [IntKind.wrap_i64]; omega
  obtain ⟨G, tn, hG⟩ : ∃ G tn, runH (1 + p) (1 + q) ⟨[120], false, 0⟩ l = (G, tn) := ⟨_, _, rfl⟩
  have HT := Lib.hid (tell_all (rise := 1 + p) (fall := 1 + q) (by omega) (by omega) (by omega) (by omega) [120] l l.length (Nat.le_refl _))
  rw [List.take_length, hG] at HT
  have hnm : G.nm = [120] := by have e1 : (runH (1 + p) (1 + q) ⟨[120], false, 0⟩ l).1 = G := (by rw [hG]); rw [← e1, run_nm]
  have HNM := Lib.hid hnm
  obtain ⟨LG, hLG⟩ : ∃ L, (hlL G).toArray = L := ⟨_, rfl⟩
  have hD : hlC G = .agg LG := by rw [← hLG]; rfl
  have HLG := Lib.hid hLG
  have HLD := Lib.hid hD
  have HP : Hid (n ≤ 1000 → ∀ W, Below w.heap.size w W → Calls Try.prog 13 #[.agg #[.string ⟨#[120]⟩, .bool false, .int .i64 0], .slice A n c, .int .i64 (1 + p), .int .i64 (1 + q)] W fun e w' => e = .returned (.tuple #[.agg LG, .int .i64 tn]) ∧ Below W.heap.size W w') := Lib.hid (fun hn W hW => by
    have z := S.run ⟨[120], false, 0⟩ A n c l (1 + p) (1 + q) W (in0 _ _ _ (by decide) (by decide)) (by decide) hn hc hm (by omega) (by omega) (by omega) (by omega) ((PR.out W hW).more hW.size)
    unfold RunGave at z
    rw [hG] at z
    simp only [hD] at z
    exact z)
  have HPQ : Hid ((0 ≤ p ∧ p < 100) ∧ 0 ≤ q ∧ q < 100) := Lib.hid ⟨p0, q0⟩
  clear S hc hm hI hG hLG hD hnm p0 q0 hp hq
  by_cases hn : 1000 < n
  · have hn1 : 1000 < (n : Int) := by omega
    clear hn
    go_enter Try.func5, Try.ntmps5
    go_wp2_with (first | ((with_reducible refine (HAW.out w).mono ?_); rintro e w1 ⟨rfl, hb⟩; have D1 := Lib.hid hb; clear hb))
    refine (HAW.out _).mono ?_
    rintro e wz ⟨rfl, hz⟩
    go_wp2_with fail
    go_ret
    exact ⟨rfl, HB.out.trans ((bel2 D1.out hz).mono HB.out.size)⟩
  have hn1 : ¬ 1000 < (n : Int) := by omega
  have HP9 := Lib.hid (HP.out (by omega))
  have HNN : Hid (n ≤ 1000) := Lib.hid (by omega)
  clear HP hn
  go_enter Try.func5, Try.ntmps5
  go_wp2_with (first | ((with_reducible refine (HAW.out w).mono ?_); rintro e w1 ⟨rfl, hb⟩; have D1 := Lib.hid hb; clear hb) | ((with_reducible refine (HP9.out w1 D1.out).mono ?_); rintro e w2 ⟨rfl, hb⟩; have D2 := Lib.hid (bel2 D1.out hb); clear hb) | ((with_reducible show wpList _ _ _ (⟨none, .store 23 (.tmp 9) _, _, _, _, _⟩ :: _) _ _); refine wpList_storeNewG rfl 23 (.tmp 9) _ rfl (by rfl) (hlL G) (by rw [HLG.out]; rfl) (by rfl) hlSize (hl_one _) ?_; intro w3 hk hb hz; clear hz; have K3 := Lib.hid hk; have D3 := Lib.hid (bel2 D2.out hb); clear hk hb))
  go_loopw [11, 12, 13, 14] (fun dv nv lv i wr => ∃ (k : Nat) (last : Option Bool) (sn : Int) (sd : Bool) (sl : Int), k ≤ n ∧ i = .int .i64 (k : Int) ∧ dv = .bool sd ∧ nv = .int .i64 sn ∧ lv = .int .i64 sl ∧ Hid (LAt (1 + p) (1 + q) l k last sn sd sl) ∧ Hid (Blk wr 23 w2.heap.size (hlL G)) ∧ Hid (Below w.heap.size w wr)) (fun _ _ _ i _ => n - (RowKit.intOf i).toNat)
  case atStart => exact ⟨0, none, 0, false, 0, Nat.zero_le _, rfl, rfl, rfl, rfl, Lib.hid (LAt.zero _ _ l), K3, D3⟩
  case round =>
    obtain ⟨k, last, sn, sd, sl, hk, rfl, rfl, rfl, rfl, HAT, KB, DW⟩ := hrel
    have hsn0 := HAT.out.n0
    have hsn1 := HAT.out.n1
    have hsl0 := HAT.out.l0
    have hsl1 := HAT.out.l1
    have hw1 : IntKind.i64.wrap (sn + 1) = sn + 1 := by rw [IntKind.wrap_i64]; have := HNN.out; omega
    have hw2 : IntKind.i64.wrap (sl + 1) = sl + 1 := by rw [IntKind.wrap_i64]; have := HNN.out; omega
    clear hsn0 hsn1 hsl0 hsl1
    by_cases hlt : k < n
    · have h1 : (k : Int) < (n : Int) := by omega
      have h0 : (0 : Int) ≤ (k : Int) := by omega
      obtain ⟨b, off, rfl, _⟩ := (PR.out wr DW.out).addr (by omega)
      obtain ⟨x, hx⟩ : ∃ x, l[k]? = some x := ⟨_, List.getElem?_eq_getElem (by rw [HLE.out]; exact hlt)⟩
      have c1 : wr.cell? ⟨b, off + k, none⟩ = some (.bool x) := (PR.out wr DW.out).cell1 hx rfl
      have HX := Lib.hid hx
      have HLT := Lib.hid hlt
      have hk9 : k < 9223372036854775807 := by have := HNN.out; omega
      clear hx
      rcases Nat.eq_zero_or_pos k with rfl | hpos
      · obtain rfl := HAT.out.first rfl
        have hk0 : ¬ ((0 : Nat) : Int) < ((0 : Nat) : Int) := by omega
        have c1z : wr.cell? ⟨b, off, none⟩ = some (.bool x) := c1
        cases x
        · skip
          by_cases hh : 1 = 1 + q
          · have hhb : ((1 : Int) == 1 + q) = true := beq_iff_eq.2 hh
            have HH := Lib.hid hh
            clear hh
            cases sd
            · skip
              go_wp2_with fail
              go_quiet (fail)
              go_wp2_with fail
              go_roundw
              case rel => exact ⟨0 + 1, some _, _, _, _, HLT.out, (by have := HLT.out; go_num), rfl, rfl, rfl, Lib.hid (HAT.out.next HX.out (strF_same (b := false) (if_neg (by simp)) HH.out) (.inr rfl) (.inr rfl)), Lib.hid (show Blk wr 23 w2.heap.size (hlL G) from KB.out), Lib.hid ⟨DW.out.os, DW.out.tape, DW.out.output, DW.out.size, DW.out.block⟩⟩
              case measure =>
                have := HLT.out
                simp [RowKit.intOf]
                omega
            · skip
              go_wp2_with fail
              go_quiet (fail)
              go_wp2_with fail
              go_roundw
              case rel => exact ⟨0 + 1, some _, _, _, _, HLT.out, (by have := HLT.out; go_num), rfl, rfl, rfl, Lib.hid (HAT.out.next HX.out (strF_other (b := false) (if_neg (by simp)) HH.out) (.inr rfl) (.inl rfl)), Lib.hid (show Blk wr 23 w2.heap.size (hlL G) from KB.out), Lib.hid ⟨DW.out.os, DW.out.tape, DW.out.output, DW.out.size, DW.out.block⟩⟩
              case measure =>
                have := HLT.out
                simp [RowKit.intOf]
                omega
          · have hhb : ((1 : Int) == 1 + q) = false := beq_eq_false_iff_ne.2 hh
            have HH := Lib.hid hh
            clear hh
            go_wp2_with fail
            go_quiet (fail)
            go_wp2_with fail
            go_roundw
            case rel => exact ⟨0 + 1, some _, _, _, _, HLT.out, (by have := HLT.out; go_num), rfl, rfl, rfl, Lib.hid (HAT.out.next HX.out (strF_no (b := false) (if_neg (by simp)) HH.out) (.inr rfl) (.inl rfl)), Lib.hid (show Blk wr 23 w2.heap.size (hlL G) from KB.out), Lib.hid ⟨DW.out.os, DW.out.tape, DW.out.output, DW.out.size, DW.out.block⟩⟩
            case measure =>
              have := HLT.out
              simp [RowKit.intOf]
              omega
        · skip
          by_cases hh : 1 = 1 + p
          · have hhb : ((1 : Int) == 1 + p) = true := beq_iff_eq.2 hh
            have HH := Lib.hid hh
            clear hh
            cases sd
            · skip
              go_wp2_with fail
              go_quiet (fail)
              go_wp2_with fail
              go_roundw
              case rel => exact ⟨0 + 1, some _, _, _, _, HLT.out, (by have := HLT.out; go_num), rfl, rfl, rfl, Lib.hid (HAT.out.next HX.out (strF_other (b := true) (if_neg (by simp)) HH.out) (.inr rfl) (.inl rfl)), Lib.hid (show Blk wr 23 w2.heap.size (hlL G) from KB.out), Lib.hid ⟨DW.out.os, DW.out.tape, DW.out.output, DW.out.size, DW.out.block⟩⟩
              case measure =>
                have := HLT.out
                simp [RowKit.intOf]
                omega
            · skip
              go_wp2_with fail
              go_quiet (fail)
              go_wp2_with fail
              go_roundw
              case rel => exact ⟨0 + 1, some _, _, _, _, HLT.out, (by have := HLT.out; go_num), rfl, rfl, rfl, Lib.hid (HAT.out.next HX.out (strF_same (b := true) (if_neg (by simp)) HH.out) (.inr rfl) (.inr rfl)), Lib.hid (show Blk wr 23 w2.heap.size (hlL G) from KB.out), Lib.hid ⟨DW.out.os, DW.out.tape, DW.out.output, DW.out.size, DW.out.block⟩⟩
              case measure =>
                have := HLT.out
                simp [RowKit.intOf]
                omega
          · have hhb : ((1 : Int) == 1 + p) = false := beq_eq_false_iff_ne.2 hh
            have HH := Lib.hid hh
            clear hh
            go_wp2_with fail
            go_quiet (fail)
            go_wp2_with fail
            go_roundw
            case rel => exact ⟨0 + 1, some _, _, _, _, HLT.out, (by have := HLT.out; go_num), rfl, rfl, rfl, Lib.hid (HAT.out.next HX.out (strF_no (b := true) (if_neg (by simp)) HH.out) (.inr rfl) (.inl rfl)), Lib.hid (show Blk wr 23 w2.heap.size (hlL G) from KB.out), Lib.hid ⟨DW.out.os, DW.out.tape, DW.out.output, DW.out.size, DW.out.block⟩⟩
            case measure =>
              have := HLT.out
              simp [RowKit.intOf]
              omega
      · obtain ⟨j, rfl⟩ : ∃ j, k = j + 1 := ⟨k - 1, by omega⟩
        have hla := HAT.out.more j rfl
        obtain ⟨y, hy⟩ : ∃ y, l[j]? = some y := ⟨_, List.getElem?_eq_getElem (by rw [HLE.out]; omega)⟩
        rw [hy] at hla
        subst hla
        have c2 : wr.cell? ⟨b, off + j, none⟩ = some (.bool y) := (PR.out wr DW.out).cell1 hy rfl
        have hk1 : (0 : Int) < ((j + 1 : Nat) : Int) := by omega
        have hj1 : (j : Int) < (n : Int) := by omega
        have hj0 : (0 : Int) ≤ (j : Int) := by omega
        have hwj : IntKind.i64.wrap (j : Int) = (j : Int) := by rw [IntKind.wrap_i64]; have := HNN.out; omega
        clear hy hpos hlt hk
        cases x
        · cases y
          · skip
            by_cases hh : sn + 1 = 1 + q
            · have hhb : (sn + 1 == 1 + q) = true := beq_iff_eq.2 hh
              have HH := Lib.hid hh
              clear hh
              cases sd
              · skip
                go_wp2_with fail
                go_quiet (fail)
                go_wp2_with fail
                go_roundw
                case rel => exact ⟨(j + 1) + 1, some _, _, _, _, HLT.out, (by have := HLT.out; go_num), rfl, rfl, rfl, Lib.hid (HAT.out.next HX.out (strF_same (b := false) (if_pos rfl) HH.out) (.inl rfl) (.inr rfl)), Lib.hid (show Blk wr 23 w2.heap.size (hlL G) from KB.out), Lib.hid ⟨DW.out.os, DW.out.tape, DW.out.output, DW.out.size, DW.out.block⟩⟩
                case measure =>
                  have := HLT.out
                  simp [RowKit.intOf]
                  omega
              · skip
                go_wp2_with fail
                go_quiet (fail)
                go_wp2_with fail
                go_roundw
                case rel => exact ⟨(j + 1) + 1, some _, _, _, _, HLT.out, (by have := HLT.out; go_num), rfl, rfl, rfl, Lib.hid (HAT.out.next HX.out (strF_other (b := false) (if_pos rfl) HH.out) (.inl rfl) (.inl rfl)), Lib.hid (show Blk wr 23 w2.heap.size (hlL G) from KB.out), Lib.hid ⟨DW.out.os, DW.out.tape, DW.out.output, DW.out.size, DW.out.block⟩⟩
                case measure =>
                  have := HLT.out
                  simp [RowKit.intOf]
                  omega
            · have hhb : (sn + 1 == 1 + q) = false := beq_eq_false_iff_ne.2 hh
              have HH := Lib.hid hh
              clear hh
              go_wp2_with fail
              go_quiet (fail)
              go_wp2_with fail
              go_roundw
              case rel => exact ⟨(j + 1) + 1, some _, _, _, _, HLT.out, (by have := HLT.out; go_num), rfl, rfl, rfl, Lib.hid (HAT.out.next HX.out (strF_no (b := false) (if_pos rfl) HH.out) (.inl rfl) (.inl rfl)), Lib.hid (show Blk wr 23 w2.heap.size (hlL G) from KB.out), Lib.hid ⟨DW.out.os, DW.out.tape, DW.out.output, DW.out.size, DW.out.block⟩⟩
              case measure =>
                have := HLT.out
                simp [RowKit.intOf]
                omega
          · skip
            by_cases hh : 1 = 1 + q
            · have hhb : ((1 : Int) == 1 + q) = true := beq_iff_eq.2 hh
              have HH := Lib.hid hh
              clear hh
              cases sd
              · skip
                go_wp2_with fail
                go_quiet (fail)
                go_wp2_with fail
                go_roundw
                case rel => exact ⟨(j + 1) + 1, some _, _, _, _, HLT.out, (by have := HLT.out; go_num), rfl, rfl, rfl, Lib.hid (HAT.out.next HX.out (strF_same (b := false) (if_neg (by simp)) HH.out) (.inr rfl) (.inr rfl)), Lib.hid (show Blk wr 23 w2.heap.size (hlL G) from KB.out), Lib.hid ⟨DW.out.os, DW.out.tape, DW.out.output, DW.out.size, DW.out.block⟩⟩
                case measure =>
                  have := HLT.out
                  simp [RowKit.intOf]
                  omega
              · skip
                go_wp2_with fail
                go_quiet (fail)
                go_wp2_with fail
                go_roundw
                case rel => exact ⟨(j + 1) + 1, some _, _, _, _, HLT.out, (by have := HLT.out; go_num), rfl, rfl, rfl, Lib.hid (HAT.out.next HX.out (strF_other (b := false) (if_neg (by simp)) HH.out) (.inr rfl) (.inl rfl)), Lib.hid (show Blk wr 23 w2.heap.size (hlL G) from KB.out), Lib.hid ⟨DW.out.os, DW.out.tape, DW.out.output, DW.out.size, DW.out.block⟩⟩
                case measure =>
                  have := HLT.out
                  simp [RowKit.intOf]
                  omega
            · have hhb : ((1 : Int) == 1 + q) = false := beq_eq_false_iff_ne.2 hh
              have HH := Lib.hid hh
              clear hh
              go_wp2_with fail
              go_quiet (fail)
              go_wp2_with fail
              go_roundw
              case rel => exact ⟨(j + 1) + 1, some _, _, _, _, HLT.out, (by have := HLT.out; go_num), rfl, rfl, rfl, Lib.hid (HAT.out.next HX.out (strF_no (b := false) (if_neg (by simp)) HH.out) (.inr rfl) (.inl rfl)), Lib.hid (show Blk wr 23 w2.heap.size (hlL G) from KB.out), Lib.hid ⟨DW.out.os, DW.out.tape, DW.out.output, DW.out.size, DW.out.block⟩⟩
              case measure =>
                have := HLT.out
                simp [RowKit.intOf]
                omega
        · cases y
          · skip
            by_cases hh : 1 = 1 + p
            · have hhb : ((1 : Int) == 1 + p) = true := beq_iff_eq.2 hh
              have HH := Lib.hid hh
              clear hh
              cases sd
              · skip
                go_wp2_with fail
                go_quiet (fail)
                go_wp2_with fail
                go_roundw
                case rel => exact ⟨(j + 1) + 1, some _, _, _, _, HLT.out, (by have := HLT.out; go_num), rfl, rfl, rfl, Lib.hid (HAT.out.next HX.out (strF_other (b := true) (if_neg (by simp)) HH.out) (.inr rfl) (.inl rfl)), Lib.hid (show Blk wr 23 w2.heap.size (hlL G) from KB.out), Lib.hid ⟨DW.out.os, DW.out.tape, DW.out.output, DW.out.size, DW.out.block⟩⟩
                case measure =>
                  have := HLT.out
                  simp [RowKit.intOf]
                  omega
              · skip
                go_wp2_with fail
                go_quiet (fail)
                go_wp2_with fail
                go_roundw
                case rel => exact ⟨(j + 1) + 1, some _, _, _, _, HLT.out, (by have := HLT.out; go_num), rfl, rfl, rfl, Lib.hid (HAT.out.next HX.out (strF_same (b := true) (if_neg (by simp)) HH.out) (.inr rfl) (.inr rfl)), Lib.hid (show Blk wr 23 w2.heap.size (hlL G) from KB.out), Lib.hid ⟨DW.out.os, DW.out.tape, DW.out.output, DW.out.size, DW.out.block⟩⟩
                case measure =>
                  have := HLT.out
                  simp [RowKit.intOf]
                  omega
            · have hhb : ((1 : Int) == 1 + p) = false := beq_eq_false_iff_ne.2 hh
              have HH := Lib.hid hh
              clear hh
              go_wp2_with fail
              go_quiet (fail)
              go_wp2_with fail
              go_roundw
              case rel => exact ⟨(j + 1) + 1, some _, _, _, _, HLT.out, (by have := HLT.out; go_num), rfl, rfl, rfl, Lib.hid (HAT.out.next HX.out (strF_no (b := true) (if_neg (by simp)) HH.out) (.inr rfl) (.inl rfl)), Lib.hid (show Blk wr 23 w2.heap.size (hlL G) from KB.out), Lib.hid ⟨DW.out.os, DW.out.tape, DW.out.output, DW.out.size, DW.out.block⟩⟩
              case measure =>
                have := HLT.out
                simp [RowKit.intOf]
                omega
          · skip
            by_cases hh : sn + 1 = 1 + p
            · have hhb : (sn + 1 == 1 + p) = true := beq_iff_eq.2 hh
              have HH := Lib.hid hh
              clear hh
              cases sd
              · skip
                go_wp2_with fail
                go_quiet (fail)
                go_wp2_with fail
                go_roundw
                case rel => exact ⟨(j + 1) + 1, some _, _, _, _, HLT.out, (by have := HLT.out; go_num), rfl, rfl, rfl, Lib.hid (HAT.out.next HX.out (strF_other (b := true) (if_pos rfl) HH.out) (.inl rfl) (.inl rfl)), Lib.hid (show Blk wr 23 w2.heap.size (hlL G) from KB.out), Lib.hid ⟨DW.out.os, DW.out.tape, DW.out.output, DW.out.size, DW.out.block⟩⟩
                case measure =>
                  have := HLT.out
                  simp [RowKit.intOf]
                  omega
              · skip
                go_wp2_with fail
                go_quiet (fail)
                go_wp2_with fail
                go_roundw
                case rel => exact ⟨(j + 1) + 1, some _, _, _, _, HLT.out, (by have := HLT.out; go_num), rfl, rfl, rfl, Lib.hid (HAT.out.next HX.out (strF_same (b := true) (if_pos rfl) HH.out) (.inl rfl) (.inr rfl)), Lib.hid (show Blk wr 23 w2.heap.size (hlL G) from KB.out), Lib.hid ⟨DW.out.os, DW.out.tape, DW.out.output, DW.out.size, DW.out.block⟩⟩
                case measure =>
                  have := HLT.out
                  simp [RowKit.intOf]
                  omega
            · have hhb : (sn + 1 == 1 + p) = false := beq_eq_false_iff_ne.2 hh
              have HH := Lib.hid hh
              clear hh
              go_wp2_with fail
              go_quiet (fail)
              go_wp2_with fail
              go_roundw
              case rel => exact ⟨(j + 1) + 1, some _, _, _, _, HLT.out, (by have := HLT.out; go_num), rfl, rfl, rfl, Lib.hid (HAT.out.next HX.out (strF_no (b := true) (if_pos rfl) HH.out) (.inl rfl) (.inl rfl)), Lib.hid (show Blk wr 23 w2.heap.size (hlL G) from KB.out), Lib.hid ⟨DW.out.os, DW.out.tape, DW.out.output, DW.out.size, DW.out.block⟩⟩
              case measure =>
                have := HLT.out
                simp [RowKit.intOf]
                omega
    · obtain rfl : k = n := by omega
      have h1 : ¬ (k : Int) < (k : Int) := by omega
      have ATS := Lib.hid HAT.out.str
      rw [List.take_of_length_le (Nat.le_of_eq HLE.out)] at ATS
      rw [ATS.out] at HT
      have htd : G.dn = sd := HT.out.down
      have htl : tn = sl := HT.out.long
      subst htl
      have htt : (tn == tn) = true := by simp
      obtain ⟨w4, hw4⟩ : ∃ z, z = wr := ⟨_, rfl⟩
      subst hw4
      clear hlt hk
      have HTD := Lib.hid htd
      clear htd
      rcases Nat.eq_zero_or_pos k with rfl | hpos
      · obtain rfl := HAT.out.first rfl
        have hk0 : ¬ (0 : Int) < ((0 : Nat) : Int) := by omega
        have HGE : Hid (G = ⟨[120], sd, 0⟩) := Lib.hid (hl_ext HNM.out HTD.out (HT.out.none_ rfl))
        go_wp2_with (first | ((with_reducible show wpList _ _ _ (⟨some 110, _, _, _, _, _⟩ :: _) _ _); refine wpList_loadHl (op := ⟨some 110, _, _, _, _, _⟩) _ rfl (by rfl) w2.heap.size 0 (by rfl) G (Blk_10.range KB.out) _ HLG.out ?_) | ((with_reducible show wpList _ _ _ (⟨some 114, _, _, _, _, _⟩ :: _) _ _); refine wpList_eqlHt (op := ⟨some 114, _, _, _, _, _⟩) _ _ _ rfl (by rfl) G ⟨[120], sd, 0⟩ (by show Value.agg LG = _; exact HLD.out.symm) (by rfl) true (hlB_iff.2 (HGE.out)) ?_))
        go_ret
        exact ⟨rfl, DW.out⟩
      · obtain ⟨j, rfl⟩ : ∃ j, k = j + 1 := ⟨k - 1, by omega⟩
        have hla := HAT.out.more j rfl
        obtain ⟨y, hy⟩ : ∃ y, l[j]? = some y := ⟨_, List.getElem?_eq_getElem (by rw [HLE.out]; omega)⟩
        rw [hy] at hla
        subst hla
        obtain ⟨b, off, rfl, _⟩ := (PR.out w4 DW.out).addr (by omega)
        have c2 : w4.cell? ⟨b, off + j, none⟩ = some (.bool y) := (PR.out w4 DW.out).cell1 hy rfl
        have hk1 : (0 : Int) < ((j + 1 : Nat) : Int) := by omega
        have hj1 : (j : Int) < (j : Int) + 1 := by omega
        have hj0 : (0 : Int) ≤ (j : Int) := by omega
        have hwj : IntKind.i64.wrap (j : Int) = (j : Int) := by rw [IntKind.wrap_i64]; have := HNN.out; omega
        clear hy hpos
        by_cases hyd : y = sd
        · have HGE : Hid (G = ⟨[120], sd, sn⟩) := Lib.hid (hl_ext HNM.out HTD.out (HT.out.eq y rfl hyd).1)
          have hyb : (y == sd) = true := beq_iff_eq.2 hyd
          clear hyd
          go_wp2_with (first | ((with_reducible show wpList _ _ _ (⟨some 110, _, _, _, _, _⟩ :: _) _ _); refine wpList_loadHl (op := ⟨some 110, _, _, _, _, _⟩) _ rfl (by rfl) w2.heap.size 0 (by rfl) G (Blk_10.range KB.out) _ HLG.out ?_) | ((with_reducible show wpList _ _ _ (⟨some 114, _, _, _, _, _⟩ :: _) _ _); refine wpList_eqlHt (op := ⟨some 114, _, _, _, _, _⟩) _ _ _ rfl (by rfl) G ⟨[120], sd, sn⟩ (by show Value.agg LG = _; exact HLD.out.symm) (by rfl) true (hlB_iff.2 (HGE.out)) ?_))
          go_ret
          exact ⟨rfl, DW.out⟩
        · have HGE : Hid (G = ⟨[120], sd, 0⟩) := Lib.hid (hl_ext HNM.out HTD.out (HT.out.ne y rfl hyd))
          have hyb : (y == sd) = false := beq_eq_false_iff_ne.2 hyd
          clear hyd
          go_wp2_with (first | ((with_reducible show wpList _ _ _ (⟨some 110, _, _, _, _, _⟩ :: _) _ _); refine wpList_loadHl (op := ⟨some 110, _, _, _, _, _⟩) _ rfl (by rfl) w2.heap.size 0 (by rfl) G (Blk_10.range KB.out) _ HLG.out ?_) | ((with_reducible show wpList _ _ _ (⟨some 114, _, _, _, _, _⟩ :: _) _ _); refine wpList_eqlHt (op := ⟨some 114, _, _, _, _, _⟩) _ _ _ rfl (by rfl) G ⟨[120], sd, 0⟩ (by show Value.agg LG = _; exact HLD.out.symm) (by rfl) true (hlB_iff.2 (HGE.out)) ?_))
          go_ret
          exact ⟨rfl, DW.out⟩
end Go.Proofs.Yteljijjebocbiaa
