/-
  The program: slices.Clone of healths, Down, Run.
-/
import Derived.Test.YteljijjebocbiaaYP2
import Derived.Test.YteljijjebocbiaaStEl
import Derived.Lib.SliceRun
namespace Go.Proofs.Yteljijjebocbiaa
set_option maxRecDepth 100000
open Go.RowKit Go.Lib

theorem pcloneH_any {B n : Nat} {A : Option Addr} (c : Nat) {xs : List Hl} (hn : n ≤ 1000000) (w : World) (hB : B ≤ w.heap.size) (h : RdG eH w B A n xs) :
    Calls Try.prog 32 #[.slice A n c] w fun e W' => ∃ v, e = .returned v ∧ OwnG eH W' w.heap.size v xs ∧ Below w.heap.size w W' := by
  cases A with
  | none =>
    have h0 : n = 0 := by
      rcases Nat.eq_zero_or_pos n with h0 | h0
      · exact h0
      · obtain ⟨b, off, e, _⟩ := h.addr h0
        cases e
    subst h0
    obtain rfl : xs = [] := List.eq_nil_of_length_eq_zero h.len
    have hq : ∀ W : World, (binOp .eql 34 (.slice none 0 c) (.slice none 0 0)).run Try.prog W = .ok (.bool true) W := fun W => run_eql_slice_nil W _ _ none 0 c 0 0 Try.underlying34
    clear h hn hB
    go_enter Try.func32, Try.ntmps32
    go_wp2_with fail
    go_ret
    exact ⟨_, rfl, OwnG.nil_ eH _ _, Below.refl _ _⟩
  | some a =>
    have HR := Lib.hid h
    have HN := Lib.hid hn
    have HBB := Lib.hid hB
    have hq : ∀ W : World, (binOp .eql 34 (.slice (some a) n c) (.slice none 0 0)).run Try.prog W = .ok (.bool false) W := fun W => run_eql_slice_nil W _ _ (some a) n c 0 0 Try.underlying34
    clear h hn hB
    go_enter Try.func32, Try.ntmps32
    go_wp2_with (at_builtin; refine wpList_appendG eH rfl _ _ rfl w.heap.size _ [] (by rfl) (OwnG.empty eH w (Nat.le_refl _)) B (some a) n c xs (by rfl) (HR.out.alloc HBB.out _) (by have := HN.out; simp; omega) (by rw [World.size_alloc]; omega) ?_; intro v6 W6 ho6 hg6 hv6; have HO6 := Lib.hid ho6; have HG6 := Lib.hid hg6; clear ho6 hg6 hv6)
    go_ret
    refine ⟨_, rfl, ?_, ((Below.refl w.heap.size w).alloc (Nat.le_refl _) _).grown HG6.out (by rw [World.size_alloc]; omega) (fun k hk => by cases hk; exact Nat.le_refl _)⟩
    have h9 := HO6.out
    rw [List.nil_append] at h9
    exact h9
theorem down_low (l : List Hl) (k : Nat) (hk : k ≤ l.length) : (downL (l.take k)).length ≤ k := by
  unfold downL
  rw [List.length_map]
  have := List.length_filter_le (fun h : Hl => h.dn) (l.take k)
  rw [List.length_take] at this
  omega
set_option maxHeartbeats 8000000 in
theorem pdown_any {A : Option Addr} {n B : Nat} (c : Nat) {l : List Hl} (hn : n ≤ 1000000) (w : World) (hB : B ≤ w.heap.size) (h : RdG eH w B A n l) :
    Calls Try.prog 21 #[.slice A n c] w fun e w' => ∃ r, e = .returned r ∧ OwnG eN w' w.heap.size r (downL l) ∧ Below w.heap.size w w' := by
  have HX := Lib.hid h
  have HL := Lib.hid h.len
  have HBB := Lib.hid hB
  have HN := Lib.hid hn
  clear h hB hn
  go_enter Try.func21, Try.ntmps21
  go_wp2_with fail
  go_loopw [3, 8] (fun v i wr => ∃ k : Nat, k ≤ n ∧ i = .int .i64 (k : Int) ∧ Hid (OwnG eN wr w.heap.size v (downL (l.take k))) ∧ Below w.heap.size w wr) (fun _ i _ => n - (RowKit.intOf i).toNat)
  case atStart => exact ⟨0, Nat.zero_le _, rfl, Lib.hid (OwnG.nil_ eN _ _), Below.refl _ _⟩
  case round =>
    obtain ⟨k, hk, rfl, HO, hw⟩ := hrel
    obtain ⟨v, hv⟩ : ∃ z, z = u3 := ⟨_, rfl⟩
    subst hv
    have HW := Lib.hid hw
    clear hw
    by_cases hlt : k < n
    · have h1 : (k : Int) < (n : Int) := by omega
      have h0 : (0 : Int) ≤ (k : Int) := by omega
      obtain ⟨b, off, rfl, hbB⟩ := HX.out.addr (by omega)
      obtain ⟨x, hx⟩ : ∃ x, l[k]? = some x := ⟨_, List.getElem?_eq_getElem (by rw [HL.out]; exact hlt)⟩
      have HR := Lib.hid ((HX.out.below (HW.out.mono HBB.out)).range hx)
      have HXX := Lib.hid hx
      have HLT := Lib.hid hlt
      have hk9 : k < 9223372036854775807 := by have := HN.out; omega
      have HDL := Lib.hid (down_low l k (by rw [HL.out]; omega))
      have HDS := Lib.hid (down_succ hx)
      obtain ⟨⟨nm, dn, run⟩, hxe⟩ : ∃ y, x = y := ⟨_, rfl⟩
      subst hxe
      clear hx hlt hk hbB
      cases dn
      · go_wp2_with (first
          | ((with_reducible show wpList _ _ _ (⟨some 11, _, _, _, _, _⟩ :: _) _ _); refine wpList_loadHl (.tmp 10) rfl (by rfl) b (off + k * 3) (by rfl) ⟨nm, false, run⟩ HR.out #[.string ⟨nm.toArray⟩, .bool false, .int .i64 run] rfl ?_)
          | ((with_reducible show wpList _ _ _ (⟨none, .store _ (.tmp 5) _, _, _, _, _⟩ :: _) _ _); refine wpList_storeNewG rfl 23 (.tmp 5) (.tmp 11) rfl (by rfl) [.string ⟨nm.toArray⟩, .bool false, .int .i64 run] (by rfl) rfl hlSize (by simp [Value.oneCell']) ?_; intro w4 hb4 hbel4 hsz4; have HO4 := Lib.hid (HO.out.below hbel4); have HW4 := Lib.hid (HW.out.trans (hbel4.mono HW.out.size)); have d1 : w4.cell? ⟨wr.heap.size, 1, none⟩ = some (.bool false) := Blk_10.cell hb4 (i := 1) rfl; have HB4 := Lib.hid hb4; clear hbel4 hsz4 hb4))
        go_roundw
        case rel => exact ⟨k + 1, HLT.out, by have := HLT.out; go_num, by rw [HDS.out, if_neg (show ¬ (false : Bool) = true by decide), List.append_nil]; exact HO4, HW4.out⟩
        case measure =>
          have := HLT.out
          simp [RowKit.intOf]
          omega
      · go_wp2_with (first
          | ((with_reducible show wpList _ _ _ (⟨some 11, _, _, _, _, _⟩ :: _) _ _); refine wpList_loadHl (.tmp 10) rfl (by rfl) b (off + k * 3) (by rfl) ⟨nm, true, run⟩ HR.out #[.string ⟨nm.toArray⟩, .bool true, .int .i64 run] rfl ?_)
          | ((with_reducible show wpList _ _ _ (⟨none, .store _ (.tmp 5) _, _, _, _, _⟩ :: _) _ _); refine wpList_storeNewG rfl 23 (.tmp 5) (.tmp 11) rfl (by rfl) [.string ⟨nm.toArray⟩, .bool true, .int .i64 run] (by rfl) rfl hlSize (by simp [Value.oneCell']) ?_; intro w4 hb4 hbel4 hsz4; have HO4 := Lib.hid (HO.out.below hbel4); have HW4 := Lib.hid (HW.out.trans (hbel4.mono HW.out.size)); have d0 : w4.cell? ⟨wr.heap.size, 0, none⟩ = some (.string ⟨nm.toArray⟩) := Blk_10.cell hb4 (i := 0) rfl; have d1 : w4.cell? ⟨wr.heap.size, 1, none⟩ = some (.bool true) := Blk_10.cell hb4 (i := 1) rfl; have HB4 := Lib.hid hb4; clear hbel4 hsz4 hb4)
          | (at_builtin; refine wpList_appendG eN rfl _ _ rfl w.heap.size _ _ (by rfl) (HO4.out.alloc (.cells #[.string ⟨nm.toArray⟩] 9)) _ _ 1 1 [nm] (by rfl) (RdG.laid eN w4 [nm] 1 rfl _ rfl) (by have := HDL.out; have := HN.out; have := HLT.out; omega) (by rw [World.size_alloc]; have := HW4.out.size; omega) ?_; intro v6 W6 ho6 hg6 hv6; have HO6 := Lib.hid ho6; have HW6 := Lib.hid ((HW4.out.alloc HW4.out.size (.cells #[.string ⟨nm.toArray⟩] 9)).grown hg6 (by rw [World.size_alloc]; have := HW4.out.size; omega) (fun j hj => HO4.out.lt j hj)); clear ho6 hg6 hv6))
        go_roundw
        case rel => exact ⟨k + 1, HLT.out, by have := HLT.out; go_num, by rw [HDS.out, if_pos rfl]; exact HO6, HW6.out⟩
        case measure =>
          have := HLT.out
          simp [RowKit.intOf]
          omega
    · obtain rfl : k = n := by omega
      have h1 : ¬ (k : Int) < (k : Int) := by omega
      have HT : Hid (l.take k = l) := Lib.hid (by rw [← HL.out, List.take_length])
      rw [HT.out] at HO
      clear hlt hk
      go_wp2_with fail
      go_ret
      exact ⟨_, rfl, HO.out, HW.out⟩
end Go.Proofs.Yteljijjebocbiaa
