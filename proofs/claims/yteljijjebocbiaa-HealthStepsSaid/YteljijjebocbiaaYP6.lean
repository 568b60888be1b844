/-
  The program: Sync.
-/
import Derived.Test.YteljijjebocbiaaYP3
import Derived.Test.YteljijjebocbiaaYP5
import Derived.Test.YteljijjebocbiaaYRSync
namespace Go.Proofs.Yteljijjebocbiaa
set_option maxRecDepth 100000
open Go.RowKit Go.Lib Go.Maps

/-- The healths that are laid, behind them new ones. -/
def laidY (l : List Hl) (S : List (List UInt8)) (m k : Nat) : List Hl := (S.take k).map (hlOf l) ++ List.replicate (m - k) ⟨[], false, 0⟩
theorem laidY_len (l : List Hl) (S : List (List UInt8)) {k : Nat} (h : k ≤ S.length) : ((S.take k).map (hlOf l)).length = k := by
  rw [List.length_map, List.length_take, Nat.min_eq_left h]
theorem laidY_at {l : List Hl} {S : List (List UInt8)} {m k : Nat} (hl : S.length = m) (hk : k < m) : (laidY l S m k)[k]? = some ⟨[], false, 0⟩ := by
  unfold laidY
  rw [List.getElem?_append_right (by rw [laidY_len l S (by omega)]; exact Nat.le_refl _), laidY_len l S (by omega), Nat.sub_self, List.getElem?_replicate, if_pos (by omega)]
theorem laidY_set {l : List Hl} {S : List (List UInt8)} {m k : Nat} (hl : S.length = m) {x : List UInt8} (hx : S[k]? = some x) : (laidY l S m k).set k (hlOf l x) = laidY l S m (k + 1) := by
  have hk : k < m := by rw [← hl]; exact (List.getElem?_eq_some_iff.1 hx).1
  unfold laidY
  rw [List.set_append_right _ _ (by rw [laidY_len l S (by omega)]; exact Nat.le_refl _), laidY_len l S (by omega), Nat.sub_self, take_more hx, List.map_append, show m - k = (m - (k + 1)) + 1 by omega, List.replicate_succ, List.set_cons_zero, List.append_assoc]
  rfl
theorem laidY_all {l : List Hl} {S : List (List UInt8)} {m : Nat} (hl : S.length = m) : laidY l S m m = S.map (hlOf l) := by
  unfold laidY
  rw [Nat.sub_self, List.replicate_zero, List.append_nil, ← hl, List.take_length]
theorem gb_of_below {w w' : World} (h : Below w.heap.size w w') : w.grownBy w' none := ⟨h.os, h.tape, h.output, h.size, fun i hi _ => h.block i hi⟩
set_option maxHeartbeats 16000000 in
theorem psync_any {A A2 : Option Addr} {n n2 B : Nat} (c c2 : Nat) {l : List Hl} {ns : List (List UInt8)} (hn : n ≤ 1000000) (hn2 : n2 ≤ 1000000) (hnm : ∀ x, x ∈ l → x.nm.length ≤ maxLen) (hns : ∀ x, x ∈ ns → x.length ≤ maxLen) (w : World) (hB : B ≤ w.heap.size) (h : RdG eH w B A n l) (h2 : RdG eN w B A2 n2 ns) :
    Calls Try.prog 17 #[.slice A n c, .slice A2 n2 c2] w (SyncGave w l ns) := by
  unfold SyncGave
  have HP := Lib.hid (places_any c hn hnm w hB h)
  have HV := Lib.hid (fun W => values_any A2 n2 c2 W)
  have HS := Lib.hid (fun W1 (hW : Below w.heap.size w W1) => psorted_any W1.heap.size A2 n2 c2 ns hn2 (W1.alloc (.cells #[.slice A2 n2 c2] 35)) (by rw [World.size_alloc]; omega) (Blk_10.cell (Blk_10.new W1 35 [.slice A2 n2 c2]) (i := 0) rfl) ((h2.below ((hW.mono hB).alloc (Nat.le_trans hB hW.size) _)).more (by rw [World.size_alloc]; have := hW.size; omega)))
  have HX := Lib.hid h
  have HL := Lib.hid h.len
  have HL2 := Lib.hid h2.len
  have HBB := Lib.hid hB
  have HN := Lib.hid hn
  have HN2 := Lib.hid hn2
  have HNS := Lib.hid hns
  have HCS := Lib.hid (comp_sync ns)
  have HSM : Hid (∀ z, z ∈ syncN ns → z.length ≤ maxLen) := Lib.hid (fun z hz => hns z (syncN_mem.1 hz))
  have HSL : Hid ((syncN ns).length ≤ n2) := Lib.hid (by rw [← h2.len]; exact syncN_len ns)
  have HML : Hid ((ns.mergeSort leN).length ≤ 1000000) := Lib.hid (by rw [List.length_mergeSort, h2.len]; exact hn2)
  clear h h2 hB hn hn2 hnm hns
  go_enter Try.func17, Try.ntmps17
  go_upto_region 3 with (first
    | (go_at_call 27; refine HP.out.mono ?_; rintro e w1 ⟨rfl, hb1, D, hM, hD⟩; have HB1 := Lib.hid hb1; have HM1 := Lib.hid hM; have HD := Lib.hid hD; clear hb1 hM hD)
    | (go_at_call 30; refine (HV.out _).mono ?_; rintro e w2 ⟨rfl, hw2⟩; have HW2 := Lib.hid hw2; clear hw2)
    | (go_at_call 29; (have HS1 := HS.out w1 HB1.out); rw [← HW2.out] at HS1; refine HS1.mono ?_; clear HS1; rintro e w3 ⟨v, rfl, hown3, hb3⟩; have HO3 := Lib.hid hown3; have HB3 := Lib.hid hb3; clear hown3 hb3)
    | (go_at_call 28; refine (pcompact_any HML.out HO3.out HB3.out.size).mono ?_; rintro e w4 ⟨v4, rfl, hown4, hb4⟩; have HO4 := Lib.hid hown4; have HB4 := Lib.hid (HB3.out.trans hb4); clear hown4 hb4))
  have HB2 : Hid (Below w.heap.size w w2) := Lib.hid (by rw [HW2.out]; exact HB1.out.alloc HB1.out.size _)
  have HM2 : Hid (w2.ownsMap Try.prog 9 (plainElem (H := Unit) Try.prog 3) w.heap.size n D) := Lib.hid (by rw [HW2.out]; exact HM1.out.alloc _)
  have HBW := Lib.hid (HB2.out.trans (HB4.out.mono HB2.out.size))
  have HM4 := Lib.hid (HM2.out.kept (gb_of_below HB4.out) (by simp))
  rw [HCS.out] at HO4
  obtain ⟨S, hS⟩ : ∃ S, syncN ns = S := ⟨_, rfl⟩
  have HSS := Lib.hid hS
  rw [hS] at HO4 HSM HSL
  obtain ⟨A6, m, c6, rfl, hm, hmc, hcm, hrd, _⟩ := HO4.out.sl
  have HR := Lib.hid hrd
  have HLS := Lib.hid hm.symm
  have HMN : Hid (m ≤ 1000000) := Lib.hid (by have := HSL.out; have := HN2.out; omega)
  clear hS hm hmc hcm hrd HP HV HS HM2 HB2 HB3 HO3 HM1 HML HCS HW2
  obtain ⟨w6, hrun, hown, hg6⟩ := run_makeG eH ⟨[], false, 0⟩ rfl m (by have := HMN.out; omega) w4.heap.size w4 (Nat.le_refl _)
  have hrun2 : (Instr.makeSlice 34 (.int .i64 (m : Int)) (.int .i64 (m : Int))).run Try.prog w4 = .ok (.slice (some ⟨w4.heap.size, 0, none⟩) m m) w6 := hrun
  have HO6 := Lib.hid hown
  have HB6 := Lib.hid ((Below.refl w4.heap.size w4).grown hg6 (Nat.le_refl _) (fun j hj => by cases hj))
  obtain ⟨g, hg⟩ : ∃ g, w4.heap.size = g := ⟨_, rfl⟩
  rw [hg] at hrun2 HO6
  have HG := Lib.hid hg
  clear hrun hown hg6 hg
  go_wp2_with fail
  clear hrun2
  go_loopw [23] (fun i wr => ∃ k : Nat, k ≤ m ∧ i = .int .i64 (k : Int) ∧ Hid (OwnG eH wr g (.slice (some ⟨g, 0, none⟩) m m) (laidY l S m k)) ∧ Hid (Below w4.heap.size w4 wr)) (fun i _ => m - (RowKit.intOf i).toNat)
  case atStart => exact ⟨0, Nat.zero_le _, rfl, HO6, HB6⟩
  case round =>
    clear HO6 HB6
    obtain ⟨k, hk, rfl, HO, HW⟩ := hrel
    by_cases hlt : k < m
    · have h1 : (k : Int) < (m : Int) := by omega
      have h0 : (0 : Int) ≤ (k : Int) := by omega
      obtain ⟨b6, off6, rfl, hb6⟩ := HR.out.addr (by omega)
      obtain ⟨x, hx⟩ : ∃ x, S[k]? = some x := ⟨_, List.getElem?_eq_getElem (by rw [HLS.out]; exact hlt)⟩
      have q0 : wr.cell? ⟨b6, off6 + k, none⟩ = some (.string ⟨x.toArray⟩) := (HR.out.below HW.out).cell1 hx rfl
      have HKEY := Lib.hid (keyStr (HSM.out x (List.mem_of_getElem? hx)))
      have HAT := Lib.hid (laidY_at (l := l) HLS.out hlt)
      have HAT2 : Hid (((laidY l S m k).set k ⟨x, false, 0⟩)[k]? = some ⟨x, false, 0⟩) := Lib.hid (List.getElem?_set_self (List.getElem?_eq_some_iff.1 HAT.out).1)
      have HLT := Lib.hid hlt
      have HST := Lib.hid (laidY_set (l := l) HLS.out hx)
      have hk9 : k < 9223372036854775807 := by have := HMN.out; omega
      clear hx hlt hk hb6
      rcases hlOf_place (l := l) (s := x) with ⟨hp, hh⟩ | ⟨k2, hl, hp, hk2, hh⟩
      · have HHAS : Hid (Maps.has D (.string x) = false) := Lib.hid (by rw [(HD.out.2 x).1, hp]; rfl)
        rw [hh] at HST
        clear hp hh
        go_wp2_with (first
          | ((with_reducible show wpList _ _ _ (⟨none, .store _ (.tmp 32) _, _, _, _, _⟩ :: _) _ _); refine wpList_storeG eH rfl _ _ _ rfl g k 0 (k * 3) rfl (by rfl) (.string ⟨x.toArray⟩) (by rfl) (laidY l S m k) m m g HO.out ⟨[], false, 0⟩ ⟨x, false, 0⟩ HAT.out (by decide) rfl (by kernel_rfl) rfl rfl ?_; intro w7 ho7 hg7; have HO7 := Lib.hid ho7; have HW7 := Lib.hid (HW.out.grown hg7 HW.out.size (fun j hj => by cases hj; rw [HG.out]; exact Nat.le_refl _)); have HM7 := Lib.hid (HM4.out.kept (gb_of_below HW7.out) (by simp)); clear ho7 hg7)
          | (at_lookup; refine wpList_lookup_own_ok_int _ rfl _ _ 51 rfl 9 3 .i64 strKeyed Try.underlying51 Try.underlying3 (zeroIntY _) w.heap.size n _ rfl HM7.out _ _ rfl HKEY.out ?_; intro c0 hat hwf; rw [HHAS.out]; clear hat hwf))
        go_roundw
        case rel => exact ⟨k + 1, HLT.out, by have := HLT.out; go_num, by rw [← HST.out]; exact HO7, HW7⟩
        case measure =>
          have := HLT.out
          simp [RowKit.intOf]
          omega
      · have hk2n : k2 < n := by rw [← HL.out]; exact (List.getElem?_eq_some_iff.1 hk2).1
        obtain ⟨b, off, rfl, hbB⟩ := HX.out.addr (Nat.lt_of_le_of_lt (Nat.zero_le _) hk2n)
        have HHAS : Hid (Maps.has D (.string x) = true) := Lib.hid (by rw [(HD.out.2 x).1, hp]; exact decide_eq_true (by omega))
        have HATK : Hid (∀ z, D.atKey (.string x) z = .lit (.int .i64 (k2 : Int))) := Lib.hid (by have := (HD.out.2 x).2; rw [hp] at this; exact this (by omega))
        have HK2 := Lib.hid hk2
        have j1 : (k2 : Int) < (n : Int) := by omega
        have j0 : (0 : Int) ≤ (k2 : Int) := by omega
        obtain ⟨⟨nm, dn, run⟩, hxe⟩ : ∃ y, hl = y := ⟨_, rfl⟩
        subst hxe
        rw [hh] at HST
        clear hp hk2 hh hk2n hbB
        go_wp2_with (first
          | ((with_reducible show wpList _ _ _ (⟨none, .store _ (.tmp 32) _, _, _, _, _⟩ :: _) _ _); refine wpList_storeG eH rfl _ _ _ rfl g k 0 (k * 3) rfl (by rfl) (.string ⟨x.toArray⟩) (by rfl) (laidY l S m k) m m g HO.out ⟨[], false, 0⟩ ⟨x, false, 0⟩ HAT.out (by decide) rfl (by kernel_rfl) rfl rfl ?_; intro w7 ho7 hg7; have HO7 := Lib.hid ho7; have HW7 := Lib.hid (HW.out.grown hg7 HW.out.size (fun j hj => by cases hj; rw [HG.out]; exact Nat.le_refl _)); have HM7 := Lib.hid (HM4.out.kept (gb_of_below HW7.out) (by simp)); have HR7 := Lib.hid ((HX.out.below ((HBW.out.trans (HW7.out.mono HBW.out.size)).mono HBB.out)).range HK2.out); clear ho7 hg7)
          | (at_lookup; refine wpList_lookup_own_ok_int _ rfl _ _ 51 rfl 9 3 .i64 strKeyed Try.underlying51 Try.underlying3 (zeroIntY _) w.heap.size n _ rfl HM7.out _ _ rfl HKEY.out ?_; intro c0 hat hwf; rw [HHAS.out]; have hck : c0 = (k2 : Int) := by { have h9 := HATK.out (.lit (.int .i64 0)); rw [hat] at h9; injection h9 with h9; injection h9 }; subst hck; clear hat hwf)
          | ((with_reducible show wpList _ _ _ (⟨some 45, _, _, _, _, _⟩ :: _) _ _); refine wpList_loadHl (.tmp 44) rfl (by rfl) b (off + k2 * 3) (by rfl) ⟨nm, dn, run⟩ HR7.out #[.string ⟨nm.toArray⟩, .bool dn, .int .i64 run] rfl ?_)
          | ((with_reducible show wpList _ _ _ (⟨none, .store _ (.tmp 46) _, _, _, _, _⟩ :: _) _ _); refine wpList_storeEG eH rfl (.tmp 46) _ rfl g k (k * 3) rfl (by simp [Act.eval]) ⟨nm, dn, run⟩ #[.string ⟨nm.toArray⟩, .bool dn, .int .i64 run] rfl (by rfl) _ m m g HO7.out _ HAT2.out ?_; intro w8 ho8 hg8; have HO8 := Lib.hid ho8; have HW8 := Lib.hid (HW7.out.grown hg8 HW7.out.size (fun j hj => by cases hj; rw [HG.out]; exact Nat.le_refl _)); clear ho8 hg8))
        go_roundw
        case rel => exact ⟨k + 1, HLT.out, by have := HLT.out; go_num, by rw [← HST.out, ← List.set_set]; exact HO8, HW8⟩
        case measure =>
          have := HLT.out
          simp [RowKit.intOf]
          omega
    · obtain rfl : k = m := by omega
      have h1 : ¬ (k : Int) < (k : Int) := by omega
      clear hlt hk
      go_wp2_with fail
      go_ret
      refine ⟨_, rfl, ?_, HBW.out.trans (HW.out.mono HBW.out.size)⟩
      have h9 := HO.out.base_le (base' := w.heap.size) (by rw [← HG.out]; exact HBW.out.size)
      rw [laidY_all HLS.out] at h9
      unfold syncL
      rw [HSS.out]
      exact h9
end Go.Proofs.Yteljijjebocbiaa
