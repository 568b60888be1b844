/-
  The program: places (a map from each name to its first place).
-/
import Derived.Test.YteljijjebocbiaaYP1
import Derived.Test.YteljijjebocbiaaYEq
import Derived.Maps.OwnSet
import Derived.Maps.AppendAt
import Derived.WalkKit
import Derived.WalkArith
namespace Go.Proofs.Yteljijjebocbiaa
set_option maxRecDepth 100000
open Go.RowKit Go.Lib Go.Maps

theorem strKeyed : Keyed Try.prog 9 := string_keyed Try.underlying9
theorem zeroIntY (w : World) : (zeroValue 3).run Try.prog w = .ok (.int .i64 0) w := by kernel_rfl
theorem run_makeMapY (W : World) (z : Int) : (Instr.makeMap 51 (some (.int .i64 z))).run Try.prog W = .ok (.map (some W.heap.size)) (W.alloc (.map #[] 0)) := by
  simp [Instr.makeMap, run_underlying Try.underlying51, asInt, asIntOf]
theorem keyStr {x : List UInt8} (h : x.length ≤ maxLen) : keyOf Try.prog 9 (.string ⟨x.toArray⟩) = some (.string x) :=
  WideMaps.keyOf_string_mk Try.underlying9 (s := ⟨x.toArray⟩) (by simpa [ByteArray.size] using h)
theorem place_snoc (ns : List (List UInt8)) (x s : List UInt8) : placeH (ns ++ [x]) s = if 0 ≤ placeH ns s then placeH ns s else if x = s then (ns.length : Int) else -1 := by
  unfold placeH
  rw [List.findIdx?_append]
  cases h : ns.findIdx? (fun b => decide (b = s)) with
  | some j => simp
  | none =>
    by_cases e : x = s
    · subst e
      simp [List.findIdx?_cons]
    · simp [List.findIdx?_cons, e]
theorem place_low (ns : List (List UInt8)) (s : List UInt8) : -1 ≤ placeH ns s ∧ placeH ns s < (ns.length : Int) := by
  unfold placeH
  cases h : ns.findIdx? (fun b => decide (b = s)) with
  | none => exact ⟨Int.le_refl _, by show (-1 : Int) < _; omega⟩
  | some j =>
    have := (List.findIdx?_eq_some_iff_findIdx_eq.1 h).1
    exact ⟨by show (-1 : Int) ≤ (j : Int); omega, by show (j : Int) < _; omega⟩
/-- The map tells the first place of each name. -/
def MpAt (D : DataW Unit) (ns : List (List UInt8)) : Prop :=
  IsMap D ∧ ∀ s, Maps.has D (.string s) = decide (0 ≤ placeH ns s) ∧ (0 ≤ placeH ns s → ∀ z, D.atKey (.string s) z = .lit (.int .i64 (placeH ns s)))
theorem MpAt.nil_ : MpAt (.map []) [] := ⟨isMap_empty, fun s => ⟨rfl, fun h => by exact absurd h (show ¬ (0 : Int) ≤ -1 by decide)⟩⟩
theorem MpAt.more {D : DataW Unit} {ns : List (List UInt8)} (h : MpAt D ns) {x : List UInt8} (hx : 0 ≤ placeH ns x) : MpAt D (ns ++ [x]) := by
  refine ⟨h.1, fun s => ?_⟩
  have e : placeH (ns ++ [x]) s = placeH ns s := by
    rw [place_snoc]
    split
    · rfl
    · rename_i h1
      rw [if_neg (fun e => h1 (by rw [← e]; exact hx))]
      have := place_low ns s
      omega
  rw [e]
  exact h.2 s
theorem MpAt.put {D : DataW Unit} {ns : List (List UInt8)} (h : MpAt D ns) {x : List UInt8} (hx : ¬ 0 ≤ placeH ns x) : MpAt (D.put (.string x) (.lit (.int .i64 (ns.length : Int)))) (ns ++ [x]) := by
  refine ⟨h.1.put _ _, fun s => ?_⟩
  by_cases e : s = x
  · subst e
    have e2 : placeH (ns ++ [s]) s = (ns.length : Int) := by rw [place_snoc, if_neg hx, if_pos rfl]
    rw [e2]
    refine ⟨?_, fun _ z => ?_⟩
    · rw [has_put_same (k := .string s) h.1 trivial]
      exact (decide_eq_true (by omega)).symm
    · exact atKey_put_same (k := .string s) h.1 trivial _ z
  · have e2 : placeH (ns ++ [x]) s = placeH ns s := by
      rw [place_snoc]
      split
      · rfl
      · rename_i h1
        rw [if_neg (fun e' => e e'.symm)]
        have := place_low ns s
        omega
    have hne : (Lit.string s) ≠ .string x := fun h => e (by injection h)
    rw [e2]
    refine ⟨?_, fun h0 z => ?_⟩
    · rw [has_put_other hne]
      exact (h.2 s).1
    · rw [atKey_put_other hne]
      exact (h.2 s).2 h0 z
def PlacesGave (w : World) (n : Nat) (ns : List (List UInt8)) (e : Ending) (w' : World) : Prop :=
  e = .returned (.map (some w.heap.size)) ∧ Below w.heap.size w w' ∧ ∃ D, w'.ownsMap Try.prog 9 (plainElem (H := Unit) Try.prog 3) w.heap.size n D ∧ MpAt D ns
theorem nms_take {l : List Hl} {k : Nat} {x : Hl} (h : l[k]? = some x) : nmsH (l.take (k + 1)) = nmsH (l.take k) ++ [x.nm] := by
  unfold nmsH
  rw [take_more h, List.map_append]
  rfl
set_option maxHeartbeats 16000000 in
theorem places_any {A : Option Addr} {n B : Nat} (c : Nat) {l : List Hl} (hn : n ≤ 1000000) (hnm : ∀ x, x ∈ l → x.nm.length ≤ maxLen) (w : World) (hB : B ≤ w.heap.size) (h : RdG eH w B A n l) :
    Calls Try.prog 27 #[.slice A n c] w (PlacesGave w n (nmsH l)) := by
  unfold PlacesGave
  have HX := Lib.hid h
  have HL := Lib.hid h.len
  have HBB := Lib.hid hB
  have HN := Lib.hid hn
  have HNM := Lib.hid hnm
  have hmm := run_makeMapY
  clear h hB hn hnm
  go_enter Try.func27, Try.ntmps27
  go_wp2_with fail
  go_loopw [13] (fun i wr => ∃ k : Nat, k ≤ n ∧ i = .int .i64 (k : Int) ∧ Below w.heap.size w wr ∧ ∃ D, wr.ownsMap Try.prog 9 (plainElem (H := Unit) Try.prog 3) w.heap.size k D ∧ MpAt D (nmsH (l.take k))) (fun i _ => n - (RowKit.intOf i).toNat)
  case atStart => exact ⟨0, Nat.zero_le _, rfl, (Below.refl _ _).alloc (Nat.le_refl _) _, _, World.ownsMap_made _ _ _ _, MpAt.nil_⟩
  case round =>
    obtain ⟨k, hk, rfl, hw, D, hM, hD⟩ := hrel
    have HW := Lib.hid hw
    have HM := Lib.hid hM
    have HD := Lib.hid hD
    clear hw hM hD hmm
    by_cases hlt : k < n
    · have h1 : (k : Int) < (n : Int) := by omega
      have h0 : (0 : Int) ≤ (k : Int) := by omega
      obtain ⟨b, off, rfl, hbB⟩ := HX.out.addr (by omega)
      obtain ⟨x, hx⟩ : ∃ x, l[k]? = some x := ⟨_, List.getElem?_eq_getElem (by rw [HL.out]; exact hlt)⟩
      have HR := Lib.hid ((HX.out.below (HW.out.mono HBB.out)).range hx)
      have HXX := Lib.hid hx
      have HKEY := Lib.hid (keyStr (HNM.out x (List.mem_of_getElem? hx)))
      have HLT := Lib.hid hlt
      have hk9 : k < 9223372036854775807 := by have := HN.out; omega
      have hkm : k < maxLen := by have := HN.out; unfold maxLen; omega
      have HKM := Lib.hid hkm
      have HWF : Hid ((Lit.int .i64 (k : Int)).wf = true) := Lib.hid (WalkArith.wf_i64 ⟨by omega, by omega⟩)
      have HTL := Lib.hid (nms_len (l.take k))
      have HLK : Hid ((l.take k).length = k) := Lib.hid (by rw [List.length_take, HL.out]; omega)
      have HHAS := Lib.hid (HD.out.2 x.nm).1
      obtain ⟨⟨nm, dn, run⟩, hxe⟩ : ∃ y, x = y := ⟨_, rfl⟩
      subst hxe
      clear hx hlt hk hkm hbB
      by_cases hp : 0 ≤ placeH (nmsH (l.take k)) nm
      · have HP := Lib.hid hp
        rw [decide_eq_true hp] at HHAS
        clear hp
        go_wp2_with (first
          | ((with_reducible show wpList _ _ _ (⟨some 17, _, _, _, _, _⟩ :: _) _ _); refine wpList_loadHl (.tmp 16) rfl (by rfl) b (off + k * 3) (by rfl) ⟨nm, dn, run⟩ HR.out #[.string ⟨nm.toArray⟩, .bool dn, .int .i64 run] rfl ?_)
          | ((with_reducible show wpList _ _ _ (⟨none, .store _ (.tmp 5) _, _, _, _, _⟩ :: _) _ _); refine wpList_storeNewG rfl 23 (.tmp 5) (.tmp 17) rfl (by rfl) [.string ⟨nm.toArray⟩, .bool dn, .int .i64 run] (by rfl) rfl hlSize (by simp [Value.oneCell']) ?_; intro w4 hb4 hbel4 hsz4; have HM4 := Lib.hid (HM.out.kept (row := none) ⟨hbel4.os, hbel4.tape, hbel4.output, hbel4.size, fun i hi _ => hbel4.block i hi⟩ (by simp)); have HW4 := Lib.hid (HW.out.trans (hbel4.mono HW.out.size)); have d0 : w4.cell? ⟨wr.heap.size, 0, none⟩ = some (.string ⟨nm.toArray⟩) := Blk_10.cell hb4 (i := 0) rfl; have HB4 := Lib.hid hb4; clear hbel4 hsz4 hb4)
          | (at_lookup; refine wpList_lookup_own_ok_int _ rfl _ _ 51 rfl 9 3 .i64 strKeyed Try.underlying51 Try.underlying3 (zeroIntY _) w.heap.size k _ rfl HM4.out _ _ rfl HKEY.out ?_; intro c0 hat hwf; rw [HHAS.out]; clear hat hwf))
        go_roundw
        case rel => exact ⟨k + 1, HLT.out, by have := HLT.out; go_num, HW4.out, D, HM4.out.mono (Nat.le_succ _), by rw [nms_take HXX.out]; exact HD.out.more HP.out⟩
        case measure =>
          have := HLT.out
          simp [RowKit.intOf]
          omega
      · have HP := Lib.hid hp
        rw [decide_eq_false hp] at HHAS
        clear hp
        go_wp2_with (first
          | ((with_reducible show wpList _ _ _ (⟨some 17, _, _, _, _, _⟩ :: _) _ _); refine wpList_loadHl (.tmp 16) rfl (by rfl) b (off + k * 3) (by rfl) ⟨nm, dn, run⟩ HR.out #[.string ⟨nm.toArray⟩, .bool dn, .int .i64 run] rfl ?_)
          | ((with_reducible show wpList _ _ _ (⟨none, .store _ (.tmp 5) _, _, _, _, _⟩ :: _) _ _); refine wpList_storeNewG rfl 23 (.tmp 5) (.tmp 17) rfl (by rfl) [.string ⟨nm.toArray⟩, .bool dn, .int .i64 run] (by rfl) rfl hlSize (by simp [Value.oneCell']) ?_; intro w4 hb4 hbel4 hsz4; have HM4 := Lib.hid (HM.out.kept (row := none) ⟨hbel4.os, hbel4.tape, hbel4.output, hbel4.size, fun i hi _ => hbel4.block i hi⟩ (by simp)); have HW4 := Lib.hid (HW.out.trans (hbel4.mono HW.out.size)); have d0 : w4.cell? ⟨wr.heap.size, 0, none⟩ = some (.string ⟨nm.toArray⟩) := Blk_10.cell hb4 (i := 0) rfl; have HB4 := Lib.hid hb4; clear hbel4 hsz4 hb4)
          | (at_lookup; refine wpList_lookup_own_ok_int _ rfl _ _ 51 rfl 9 3 .i64 strKeyed Try.underlying51 Try.underlying3 (zeroIntY _) w.heap.size k _ rfl HM4.out _ _ rfl HKEY.out ?_; intro c0 hat hwf; rw [HHAS.out]; clear hat hwf)
          | (at_mapUpdate; refine wpList_mapUpdate_own _ rfl _ _ _ 51 rfl 9 3 strKeyed Try.underlying51 (plainElem (H := Unit) Try.prog 3) w.heap.size k _ rfl HM4.out HKM.out _ (.int .i64 (k : Int)) _ rfl (by rfl) HKEY.out _ [] (plainElem_int Try.underlying3 HWF.out) ?_; intro w5 hown5 hgrow5; have HM5 := Lib.hid hown5; have HW5 := Lib.hid (HW4.out.grown hgrow5 HW4.out.size (fun j hj => by cases hj; exact Nat.le_refl _)); clear hown5 hgrow5))
        go_roundw
        case rel => exact ⟨k + 1, HLT.out, by have := HLT.out; go_num, HW5.out, _, HM5.out, by
          rw [nms_take HXX.out]
          have h9 := HD.out.put HP.out
          rw [HTL.out, HLK.out] at h9
          exact h9⟩
        case measure =>
          have := HLT.out
          simp [RowKit.intOf]
          omega
    · obtain rfl : k = n := by omega
      have h1 : ¬ (k : Int) < (k : Int) := by omega
      have HT : Hid (l.take k = l) := Lib.hid (by rw [← HL.out, List.take_length])
      rw [HT.out] at HD
      clear hlt hk
      go_wp2_with fail
      go_ret
      exact ⟨rfl, HW.out, D, HM.out, HD.out⟩
end Go.Proofs.Yteljijjebocbiaa
