/-
  ConnLater: its walk, the program's contracts a premise.
-/
import Derived.Test.YtljmegmklfohjaaZAwake
import Derived.Deep.DeepCutAuto
namespace Go.Proofs.Ytljmegmklfohjaa
set_option maxRecDepth 100000
open Go.RowKit Go.Lib

/-- So much less, as far as it may be. -/
def lessZ (d x : Int) : Int := if -1152921504606846976 < x then x - d else x
def shortL (d : Int) (k : Nat) (l : List Int) : List Int := (l.take k).map (lessZ d) ++ l.drop k
theorem shortL_len (d : Int) (k : Nat) (l : List Int) : (shortL d k l).length = l.length := by
  unfold shortL
  rw [List.length_append, List.length_map, ← List.length_append, List.take_append_drop]
theorem shortL_zero (d : Int) (l : List Int) : shortL d 0 l = l := by simp [shortL]
theorem shortL_get (d : Int) {k : Nat} {l : List Int} {x : Int} (hx : l[k]? = some x) : (shortL d k l)[k]? = some x := by
  have hk := (List.getElem?_eq_some_iff.1 hx).1
  unfold shortL
  rw [List.getElem?_append_right (by rw [List.length_map, List.length_take]; omega), List.length_map, List.length_take, Nat.min_eq_left (by omega), Nat.sub_self, List.getElem?_drop, Nat.add_zero, hx]
theorem shortL_succ (d : Int) {k : Nat} {l : List Int} {x : Int} (hx : l[k]? = some x) : (shortL d k l).set k (lessZ d x) = shortL d (k + 1) l := by
  obtain ⟨hk, he⟩ := List.getElem?_eq_some_iff.1 hx
  unfold shortL
  rw [List.take_add_one, hx, List.set_append_right _ _ (by rw [List.length_map, List.length_take]; omega), List.length_map, List.length_take, Nat.min_eq_left (by omega), Nat.sub_self, List.drop_eq_getElem_cons hk, List.set_cons_zero]
  simp
theorem shortL_idle (d : Int) {k : Nat} {l : List Int} {x : Int} (hx : l[k]? = some x) (h : lessZ d x = x) : shortL d k l = shortL d (k + 1) l := by
  rw [← shortL_succ d hx, h]
  apply List.ext_getElem?
  intro i
  rw [List.getElem?_set]
  by_cases hi : k = i
  · subst hi
    rw [if_pos rfl, if_pos (by rw [shortL_len]; exact (List.getElem?_eq_some_iff.1 hx).1), shortL_get d hx]
  · rw [if_neg hi]
theorem lessZ_le {d : Int} (hd : 0 ≤ d) (x : Int) : lessZ d x ≤ x := by
  unfold lessZ
  split <;> omega
theorem shortL_le {d : Int} (hd : 0 ≤ d) (k : Nat) (l : List Int) (i : Nat) : (shortL d k l).getD i 0 ≤ l.getD i 0 := by
  rw [List.getD_eq_getElem?_getD, List.getD_eq_getElem?_getD]
  unfold shortL
  by_cases h : i < (l.take k).length
  · rw [List.getElem?_append_left (by rw [List.length_map]; exact h), List.getElem?_map]
    rw [List.length_take] at h
    rw [List.getElem?_take, if_pos (by omega), List.getElem?_eq_getElem (show i < l.length by omega)]
    exact lessZ_le hd _
  · rw [List.getElem?_append_right (by rw [List.length_map]; omega), List.length_map]
    rw [List.length_take] at h ⊢
    by_cases hk : k ≤ l.length
    · rw [Nat.min_eq_left hk, List.getElem?_drop, show k + (i - k) = i by omega]
      exact Int.le_refl _
    · rw [List.getElem?_eq_none (by rw [List.length_drop]; omega), List.getElem?_eq_none (by omega)]
      exact Int.le_refl _
theorem zL_len (l : List Int) : (zL l).length = l.length := List.length_map _
theorem zL_set (l : List Int) (k : Nat) (x : Int) : (zL l).set k (.int .i64 x) = zL (l.set k x) := by
  unfold zL
  rw [List.map_set]
theorem zL_get {l : List Int} {k : Nat} {x : Int} (h : l[k]? = some x) : (zL l)[k]? = some (.int .i64 x) := by
  unfold zL
  rw [List.getElem?_map, h]
  rfl
theorem zL_one (l : List Int) : ∀ v ∈ zL l, v.oneCell' = true := fun v hv => by
  obtain ⟨x, _, rfl⟩ := List.mem_map.1 hv
  rfl
theorem size1_int : (Try.prog.info? 3).map (·.size) = some 1 := by kernel_rfl
set_option maxHeartbeats 16000000 in
theorem connLater_walkW (S : ConnC) (s : Int) (h1 : -9223372036854775808 ≤ s) (h2 : s ≤ 9223372036854775807) (a : Int) (h3 : -9223372036854775808 ≤ a) (h4 : a ≤ 9223372036854775807) (b : Int) (h5 : -9223372036854775808 ≤ b) (h6 : b ≤ 9223372036854775807) (l : List Int) (hl : l.length = 6) (hX : ∀ x, x ∈ l → In64 x) (u : Nat) (hu : u < 65536) (v : Nat) (hv : v < 65536) (w : World) :
    Calls Try.prog 9 #[.int .i64 s, .int .i64 a, .int .i64 b, zC l, .int .u16 (u : Int), .int .u16 (v : Int)] w fun e w' => e = .returned (.bool true) ∧ Below w.heap.size w w' := by
  have HA := Lib.hid (fun W => awake_any S W)
  have HST := Lib.hid (fun (n : Int) (hn : In64 n) (m : List Int) (hm : m.length = 6) (hx : ∀ x, x ∈ m → In64 x) (W : World) => S.stale s a n m W ⟨h1, h2⟩ ⟨h3, h4⟩ hn hm hx)
  have HS1 := Lib.hid (HST.out b ⟨h5, h6⟩ l hl hX)
  obtain ⟨nx, hnx⟩ : ∃ nx, (if b < 1152921504606846976 then b + (u : Int) else b) = nx := ⟨_, rfl⟩
  have hnb : b ≤ nx ∧ In64 nx := by
    rw [← hnx]
    unfold In64
    split <;> omega
  have HS2 := Lib.hid (HST.out nx hnb.2 l hl hX)
  have HLT2 := Lib.hid (fun (h : staleB s a b l = true) => staleB_later h hnb.1 (fun _ => Int.le_refl _))
  have HLT3 := Lib.hid (fun (h : staleB s a b l = true) => staleB_later h (Int.le_refl _) (fun i => shortL_le (d := (v : Int)) (by omega) 6 l i))
  have HS3 := Lib.hid (HST.out b ⟨h5, h6⟩ (shortL (v : Int) 6 l) (by rw [shortL_len]; exact hl) (fun x hx => by
    unfold shortL at hx
    rcases List.mem_append.1 hx with hx | hx
    · obtain ⟨y, hy, rfl⟩ := List.mem_map.1 hx
      have h9 := hX y (List.mem_of_mem_take hy)
      unfold lessZ In64 at *
      split <;> omega
    · exact hX x (List.mem_of_mem_drop hx)))
  unfold zC at HS3
  generalize staleB s a b l = r1 at HS1 HLT2 HLT3
  generalize staleB s a nx l = r2 at HS2 HLT2
  generalize staleB s a b (shortL (v : Int) 6 l) = r3 at HS3 HLT3
  obtain ⟨C0, hC0⟩ : ∃ C, (zL l).toArray = C := ⟨_, rfl⟩
  have hKE : zC l = .agg C0 := by rw [← hC0]; rfl
  rw [hKE] at HS1 HS2 ⊢
  obtain ⟨Y, hY⟩ : ∃ Y, w.alloc (.cells C0 30) = Y := ⟨_, rfl⟩
  have HK0 := Lib.hid (show Blk_10 Y 30 w.heap.size (zL l) by rw [← hY, ← hC0]; exact Blk_10.new w _ _)
  have HB0 := Lib.hid (show Below w.heap.size w Y by rw [← hY]; exact (Below.refl w.heap.size w).alloc (Nat.le_refl _) _)
  have HY := Lib.hid hY
  have HSZ : Hid ((Try.prog.info? 30).map (·.size) = some (zL l).length) := Lib.hid (by unfold zL; rw [List.length_map, hl]; exact size6)
  have HC0 := Lib.hid hC0
  have HL6 := Lib.hid hl
  have HXX := Lib.hid hX
  have HLX := Lib.hid (Blk_10.lt HK0.out)
  have HVV := Lib.hid hv
  have wv : IntKind.i64.wrap (v : Int) = (v : Int) := wZ _ (by omega) (by omega)
  have wu : IntKind.i64.wrap (u : Int) = (u : Int) := wZ _ (by omega) (by omega)
  have HNX : Hid ((b < 1152921504606846976 ∧ b + (u : Int) = nx ∧ IntKind.i64.wrap nx = nx) ∨ (¬ b < 1152921504606846976 ∧ b = nx)) := Lib.hid (by
    by_cases h9 : b < 1152921504606846976
    · rw [if_pos h9] at hnx
      exact .inl ⟨h9, hnx, wZ _ hnb.2.1 hnb.2.2⟩
    · rw [if_neg h9] at hnx
      exact .inr ⟨h9, hnx⟩)
  clear h1 h2 h3 h4 h5 h6 hl hX S hC0 hKE hY hnx hnb hu hv HST
  go_enter Try.func9, Try.ntmps9
  go_upto_region 1 with (fail)
  rw [HY.out]
  go_upto_region 5 with (first
    | ((with_reducible refine (HA.out Y).mono ?_); rintro e w1 ⟨rfl, hb⟩; have D1 := Lib.hid hb; clear hb)
    | ((with_reducible show wpList _ _ _ (⟨some 22, _, _, _, _, _⟩ :: _) _ _); refine wpList_loadM (op := ⟨some 22, _, _, _, _, _⟩) 30 _ rfl (by rfl) w.heap.size 0 (by rfl) (zL l) (Blk_10.range (Blk_10.below HK0.out HLX.out D1.out)) _ Try.underlying30 rfl HSZ.out ?_; rw [HC0.out])
    | ((with_reducible refine (HS1.out w1).mono ?_); rintro e w2 ⟨rfl, hb⟩; have D2 := Lib.hid (bel2 D1.out hb); clear hb))
  go_upto_if 26 with (fail)
  go_cut [14] from 17 (fun s14 wx => s14 = .int .i64 nx ∧ wx = w2)
  case first =>
    rcases HNX.out with ⟨k1, k2, k3⟩ | ⟨k1, rfl⟩
    · go_wp2_with fail
      go_meet
      case rel => exact ⟨rfl, rfl⟩
    · go_wp2_with fail
      go_meet
      case rel => exact ⟨rfl, rfl⟩
  case rest =>
    obtain ⟨rfl, hwx⟩ := hcut
    have hwx := hwx.symm
    subst hwx
    clear wu
    go_wp2_with (first
      | ((with_reducible show wpList _ _ _ (⟨some 31, _, _, _, _, _⟩ :: _) _ _); refine wpList_loadM (op := ⟨some 31, _, _, _, _, _⟩) 30 _ rfl (by rfl) w.heap.size 0 (by rfl) (zL l) (Blk_10.range (Blk_10.below HK0.out HLX.out D2.out)) _ Try.underlying30 rfl HSZ.out ?_)
      | ((with_reducible show wpList _ _ _ (⟨none, _, _, _, _, _⟩ :: _) _ _); refine wpList_storeNewG rfl 30 (.tmp 15) _ rfl (by rfl) (zL l) (by rfl) (by rw [zL_len, HL6.out]; rfl) HSZ.out (zL_one l) ?_; intro w3 hk3 hb3 hz3; have K3 := Lib.hid hk3; have D3 := Lib.hid hb3; have Z3 := Lib.hid hz3; clear hk3 hb3 hz3))
    obtain ⟨g, hg⟩ : ∃ g, w2.heap.size = g := ⟨_, rfl⟩
    have HGY : Hid (Y.heap.size ≤ g) := Lib.hid (by rw [← hg]; exact D2.out.size)
    have D4 := Lib.hid (D2.out.trans (D3.out.mono D2.out.size))
    rw [hg] at K3
    have HGE := Lib.hid hg
    clear D3 Z3 hg
    go_loopw [16] (fun i wr => ∃ k : Nat, k ≤ 6 ∧ i = .int .i64 (k : Int) ∧ Blk_10 wr 30 g (zL (shortL (v : Int) k l)) ∧ Below Y.heap.size Y wr)
      (fun i _ => 6 - (intOf i).toNat)
    case atStart => exact ⟨0, Nat.zero_le _, rfl, by rw [shortL_zero]; exact K3.out, D4.out⟩
    case round =>
      clear K3 D4
      obtain ⟨k, hk, rfl, hK, hbel⟩ := hrel
      have HK := Lib.hid hK
      have HB := Lib.hid hbel
      clear hK hbel
      rw [HGE.out]
      by_cases hlt : k < 6
      · have k1 : (k : Int) < 6 := by omega
        have k0 : (0 : Int) ≤ (k : Int) := by omega
        obtain ⟨x, hx⟩ : ∃ x, l[k]? = some x := ⟨_, List.getElem?_eq_getElem (by rw [HL6.out]; exact hlt)⟩
        have hxx := HXX.out x (List.mem_of_getElem? hx)
        have q1 := HK.out.cell (zL_get (shortL_get (v : Int) hx))
        have HSU := Lib.hid (shortL_succ (v : Int) hx)
        have HID := Lib.hid (shortL_idle (v : Int) hx)
        have HLE : Hid (k < (zL (shortL (v : Int) k l)).length) := Lib.hid (by rw [zL_len, shortL_len, HL6.out]; exact hlt)
        have HLT := Lib.hid hlt
        have hv9 := HVV.out
        clear hx hk hlt
        by_cases hx6 : -1152921504606846976 < x
        · have hl6 : lessZ (v : Int) x = x - (v : Int) := if_pos hx6
          rw [hl6] at HSU
          have kw := wZ (x - (v : Int)) (by omega) (by have := hxx.2; omega)
          clear hl6 hxx
          go_wp2_with ((with_reducible show wpList _ _ _ (⟨none, _, _, _, _, _⟩ :: _) _ _); refine wpList_storeB1 (op := ⟨none, _, _, _, _, _⟩) rfl 3 (.tmp 47) (.tmp 46) rfl g k (by rfl) (.int .i64 (x - (v : Int))) (by rfl) 30 _ HK.out HLE.out size1_int rfl rfl ?_; intro w4 hb4 hg4; rw [zL_set, HSU.out] at hb4; have K4 := Lib.hid hb4; have D4 := Lib.hid (below_gb HB.out hg4 HGY.out HB.out.size); clear hb4 hg4)
          go_roundw
          case rel => exact ⟨k + 1, HLT.out, (by have := HLT.out; go_num), K4.out, D4.out⟩
          case measure =>
            have := HLT.out
            simp [intOf]
            omega
        · have hl6 : lessZ (v : Int) x = x := if_neg hx6
          have HI6 := Lib.hid (HID.out hl6)
          clear hl6 hxx
          go_wp2_with fail
          go_roundw
          case rel => exact ⟨k + 1, HLT.out, (by have := HLT.out; go_num), by rw [← HI6.out]; exact HK.out, HB.out⟩
          case measure =>
            have := HLT.out
            simp [intOf]
            omega
      · obtain rfl : k = 6 := by omega
        clear hlt hk
        have HSZ2 : Hid ((Try.prog.info? 30).map (·.size) = some (zL (shortL (v : Int) 6 l)).length) := Lib.hid (by rw [zL_len, shortL_len, HL6.out]; exact size6)
        cases r1 with
        | false =>
          go_wp2_with fail
          go_ret
          exact ⟨rfl, HB0.out.trans (HB.out.mono HB0.out.size)⟩
        | true =>
          obtain rfl : true = r2 := (HLT2.out rfl).symm
          obtain rfl : true = r3 := (HLT3.out rfl).symm
          go_wp2_with (first
            | ((with_reducible show wpList _ _ _ (⟨some 54, _, _, _, _, _⟩ :: _) _ _); refine wpList_loadM (op := ⟨some 54, _, _, _, _, _⟩) 30 _ rfl (by rfl) w.heap.size 0 (by rfl) (zL l) (Blk_10.range (Blk_10.below HK0.out HLX.out HB.out)) _ Try.underlying30 rfl HSZ.out ?_; rw [HC0.out])
            | ((with_reducible refine (HS2.out wr).mono ?_); rintro e w5 ⟨rfl, hb⟩; have D5 := Lib.hid (bel2 HB.out hb); have K5 := Lib.hid (Blk_10.below HK.out (Blk_10.lt HK.out) hb); clear hb)
            | ((with_reducible show wpList _ _ _ (⟨some 60, _, _, _, _, _⟩ :: _) _ _); refine wpList_loadM (op := ⟨some 60, _, _, _, _, _⟩) 30 _ rfl (by rfl) g 0 (by rfl) (zL (shortL (v : Int) 6 l)) (Blk_10.range K5.out) _ Try.underlying30 rfl HSZ2.out ?_)
            | ((with_reducible refine (HS3.out w5).mono ?_); rintro e w6 ⟨rfl, hb⟩; have D6 := Lib.hid (bel2 D5.out hb); clear hb))
          go_ret
          exact ⟨rfl, HB0.out.trans (D6.out.mono HB0.out.size)⟩
end Go.Proofs.Ytljmegmklfohjaa
