/-
  nat.num, nat.lay, nat.isOfFamily, nat.mayBe, the document's Of.
-/
import Derived.Test.YtkmcopenflakkaaTK
import Derived.Test.YtkmcopenflakkaaNSup
import Derived.Test.YtkmcopenflakkaaNTen
import Derived.Test.YtkmcopenflakkaaNBack
import Derived.Test.YtkmcopenflakkaaKLaw2
namespace Go.Proofs.Ytkmcopenflakkaa
set_option maxRecDepth 100000
open Go.RowKit Go.Lib

set_option maxHeartbeats 1000000 in
/-- nat.num -/
theorem nnum_any {A : Option Addr} {len : Nat} {cap p : Nat} {xs : List UInt8} (hp : p ≤ 1000000) (h : p + 2 ≤ len) {w : World} {B : Nat} (hI : Rd w B A len xs) :
    Calls Try.prog 47 #[.slice A len cap, .int .i64 (p : Int)] w fun e w' => e = .returned (.int .u16 (wat xs p : Nat)) ∧ ∃ n, w' = w.drewN n := by
  obtain ⟨b, off, rfl, _⟩ := hI.addr (by omega)
  have c0 := hI.cellD (k := p) (by omega)
  have c1 := hI.cellD (k := p + 1) (by omega)
  have x0 := batN_lt xs p
  have x1 := batN_lt xs (p + 1)
  have e : (wat xs p : Nat) = 256 * batN xs p + batN xs (p + 1) := rfl
  have ho := or16 (batN xs p) (batN xs (p + 1)) x0 x1
  rw [← e] at ho
  rw [show ((256 * batN xs p : Nat) : Int) = (batN xs p : Int) * 256 by omega] at ho
  have hl := wat_lt xs p
  generalize batN xs p = a at *
  generalize batN xs (p + 1) = c at *
  obtain ⟨r, hr⟩ : ∃ r : Nat, wat xs p = r := ⟨_, rfl⟩
  rw [hr] at e ho hl ⊢
  have hw1 : IntKind.i64.wrap ((p : Int) + 1) = (p : Int) + 1 := by rw [IntKind.wrap_i64]; omega
  have hw4 : IntKind.u16.wrap (a : Int) = (a : Int) := by rw [IntKind.wrap_u16]; omega
  have hw5 : IntKind.u16.wrap (c : Int) = (c : Int) := by rw [IntKind.wrap_u16]; omega
  have hw6 : IntKind.u16.wrap ((a : Int) * 256) = (a : Int) * 256 := by rw [IntKind.wrap_u16]; omega
  have l1 : (p : Int) < (len : Int) := by omega
  have l2 : (p : Int) + 1 < (len : Int) := by omega
  have t1 : ((p : Int) + 1).toNat = p + 1 := by omega
  clear e hr hI
  go_enter Try.func47, Try.ntmps47
  go_wp2_with fail
  go_quiet (fail)
  go_wp2_with fail
  go_ret
  exact ⟨rfl, _, rfl⟩
set_option maxHeartbeats 1000000 in
/-- nat.lay -/
theorem nlay_any (n : Nat) (hn : n < 65536) {w : World} {g N C base : Nat} {ys : List UInt8} (hown : Own8 w base (.slice (some ⟨g, 0, none⟩) N C) ys) (hN : ys.length = N) (off : Nat) (hoff : off ≤ 1000000) (h1 : off + 2 ≤ N) :
    Calls Try.prog 45 #[.slice (some ⟨g, 0, none⟩) N C, .int .i64 (off : Int), .int .u16 (n : Int)] w fun e w' => e = .returned (.tuple #[]) ∧ Own8 w' base (.slice (some ⟨g, 0, none⟩) N C) (setL ys off (be2 n)) ∧ w.grownBy w' (some g) := by
  have HO := Lib.hid hown
  have HN := Lib.hid hN
  have HE := Lib.hid (show (ys.set off (UInt8.ofNat (n / 256))).set (off + 1) (UInt8.ofNat (n % 256)) = setL ys off (be2 n) from put2_setL ys off n)
  have e1 : ((UInt8.ofNat (n / 256)).toNat : Int) = (n : Int) / 256 := by rw [u8nat (by omega)]; omega
  have e2 : ((UInt8.ofNat (n % 256)).toNat : Int) = (n : Int) % 256 := by rw [u8nat (by omega)]; omega
  have w1 : IntKind.i64.wrap ((off : Int) + 1) = (off : Int) + 1 := by rw [IntKind.wrap_i64]; omega
  have w2 : IntKind.u8.wrap ((n : Int) / 256) = (n : Int) / 256 := by rw [IntKind.wrap_u8]; omega
  have w3 : IntKind.u8.wrap (n : Int) = (n : Int) % 256 := by rw [IntKind.wrap_u8]
  have w4 : IntKind.u16.wrap ((n : Int) / 256) = (n : Int) / 256 := by rw [IntKind.wrap_u16]; omega
  have l1 : (off : Int) < (N : Int) := by omega
  have l2 : (off : Int) + 1 < (N : Int) := by omega
  have t1 : ((off : Int) + 1).toNat = off + 1 := by omega
  have L2 := Lib.hid (show off + 1 < N by omega)
  have L1 := Lib.hid (show off < N by omega)
  have LS := Lib.hid (show (ys.set off (UInt8.ofNat (n / 256))).length = N by rw [List.length_set]; exact hN)
  have E1 := Lib.hid e1
  have E2 := Lib.hid e2
  clear hown hN e1 e2
  go_enter Try.func45, Try.ntmps45
  go_wp2_with (first
    | ((with_reducible show wpList _ _ _ (⟨none, .store 5 (.tmp 16) _, _, _, _, _⟩ :: _) _ _); refine wpList_storeOG rfl (.tmp 16) _ rfl g off (by rfl) (UInt8.ofNat (n / 256)) _ E1.out.symm (by rfl) ys N C base HN.out HO.out L1.out ?_; intro wa hoa hga; have HOA := Lib.hid hoa; have HGA := Lib.hid hga; clear hoa hga)
    | ((with_reducible show wpList _ _ _ (⟨none, .store 5 (.tmp 17) _, _, _, _, _⟩ :: _) _ _); refine wpList_storeOG rfl (.tmp 17) _ rfl g (off + 1) (by rfl) (UInt8.ofNat (n % 256)) _ E2.out.symm (by rfl) _ N C base LS.out HOA.out L2.out ?_; intro wb hob hgb; have HOB := Lib.hid hob; have HGB := Lib.hid hgb; clear hob hgb))
  go_end0
  exact ⟨rfl, HE.out ▸ HOB.out, HGA.out.trans HGB.out⟩
set_option maxHeartbeats 4000000 in
/-- nat.isOfFamily -/
theorem nfam_any {a : Ad} (h : a.b.length = 16) (f : Bool) (w : World) : Calls Try.prog 42 #[adC a, .bool f] w fun e w' => e = .returned (.bool (ofB f a)) ∧ Below w.heap.size w w' := by
  obtain ⟨six, hs⟩ : ∃ s, a.six = s := ⟨_, rfl⟩
  obtain ⟨sh, hsh⟩ : ∃ s, shortB a = s := ⟨_, rfl⟩
  have hsx : sh = true → six = false := fun e => by
    rw [e] at hsh
    unfold shortB at hsh
    rw [hs] at hsh
    cases six
    · rfl
    · cases hsh
  cases f with
  | true =>
    have HF := Lib.hid (show ofB true a = six by unfold ofB; rw [hs]; cases six <;> rfl)
    obtain ⟨Y, hY⟩ : ∃ Y : World, w.alloc (.cells (adL a).toArray 25) = Y := ⟨_, rfl⟩
    have hq : Blk Y 25 w.heap.size (adL a) := by rw [← hY]; exact Blk_10.new w _ _
    have HB := Lib.hid (show Below w.heap.size w Y by rw [← hY]; exact (Below.refl w.heap.size w).alloc (Nat.le_refl _) _)
    have d0 : Y.cell? ⟨w.heap.size, 0, none⟩ = some (.bool six) := hs ▸ Blk_10.cell hq rfl
    unfold adC
    obtain ⟨C0, hC0⟩ : ∃ C, (adL a).toArray = C := ⟨_, rfl⟩
    rw [hC0] at hY ⊢
    have HY := Lib.hid hY
    rw [← hY] at d0
    clear hY hq hs hsh hsx h hC0
    go_enter Try.func42, Try.ntmps42
    go_wp2_with fail
    go_ret
    exact ⟨by rw [HF.out]; rfl, HY.out ▸ HB.out⟩
  | false =>
    have HF := Lib.hid (show ofB false a = sh by unfold ofB; rw [hs, hsh]; cases sh; cases six <;> rfl; rw [hsx rfl]; rfl)
    obtain ⟨Y, hY, hq, hr, hbel⟩ := box_ads w a Ad.zero
    have hzs : w.heap.size + 1 < Y.heap.size := Blk_10.lt hr
    have hrd : Rd Y (w.heap.size + 1) (some ⟨w.heap.size, 1, none⟩) 16 a.b := range_rd (Blk_8.adB hq) h (by omega)
    have hr4 := hrd.take (k := 4) (by omega)
    obtain ⟨ad, had, hcs⟩ := hr4.cells (by omega)
    cases had
    have HC := Lib.hid hcs
    have H4 : Hid (((a.b.take 4).map v8).length = 4) := Lib.hid (by rw [List.length_map, List.length_take, h]; rfl)
    have HS := Lib.hid (ad4_splice (xs := a.b) (by omega))
    have HL4 := Lib.hid (ad4_len (xs := a.b) (by omega))
    have HEQ := Lib.hid (fun W => short_ad h ▸ run_eql_ad W h HL4.out)
    rw [hsh] at HEQ
    have HA := Lib.hid h
    unfold adC
    obtain ⟨C0, hC0⟩ : ∃ C, (adL a).toArray = C := ⟨_, rfl⟩
    rw [hC0] at hY ⊢
    rw [← zeroP_8] at hY
    have HC0 := Lib.hid hC0
    have HY := Lib.hid hY
    have HQ := Lib.hid hq
    have HR := Lib.hid hr
    have HB := Lib.hid hbel
    clear hY hq hr hbel hs hsh hsx h hC0 hrd hr4 hcs hzs
    go_enter Try.func42, Try.ntmps42
    go_wp2_with fail
    rw [HY.out]
    go_region_law (refine step_copy_splice rfl (.tmp 10) (.tmp 12) 22 22 rfl 5 Try.underlying22 size8 (some ⟨w.heap.size + 1, 1, none⟩) (some ⟨w.heap.size, 1, none⟩) 4 16 16 16 (by simp [Act.eval, Act.put]) (by simp [Act.eval, Act.put]) (w.heap.size + 1) 1 (adL Ad.zero) 25 HR.out ((a.b.take 4).map v8) (by rw [H4.out]; rfl) (fun h0 => ⟨rfl, _, rfl, HC.out⟩) (by rw [H4.out]; decide) (oneCell8 _) (w.heap.size + 1) Y (Below.refl _ _).drew (Nat.le_refl _) ?_; intro w3 HG3 hB3; rw [H4.out])
    rw [HS.out] at HG3
    have L1 : Blk w3 25 (w.heap.size + 1) (adL (ad4 a.b)) := HG3
    have Q1 := HQ.out.below (Nat.lt_succ_self _) hB3
    have B3 := HB.out.trans (hB3.mono (Nat.le_succ _))
    have L1 := Lib.hid L1
    have Q1 := Lib.hid Q1
    have B3 := Lib.hid B3
    clear HG3 hB3
    go_wp2_with (first
      | ((with_reducible show wpList _ _ _ (⟨some 14, _, _, _, _, _⟩ :: _) _ _); refine wpList_loadAd (op := ⟨some 14, _, _, _, _, _⟩) _ rfl (by rfl) w.heap.size 0 (by rfl) a HA.out (Blk_10.range Q1.out) ?_)
      | ((with_reducible show wpList _ _ _ (⟨some 15, _, _, _, _, _⟩ :: _) _ _); refine wpList_loadAd (op := ⟨some 15, _, _, _, _, _⟩) _ rfl (by rfl) (w.heap.size + 1) 0 (by rfl) (ad4 a.b) HL4.out (Blk_10.range L1.out) ?_)
      | ((with_reducible show wpList _ _ _ (⟨some 16, _, _, _, _, _⟩ :: _) _ _); refine wpList_eqlw_8 (op := ⟨some 16, _, _, _, _, _⟩) 25 _ _ _ rfl (by rfl) (adL a).toArray (adL (ad4 a.b)).toArray (by rfl) (by rfl) guard_ad sh HEQ.out ?_))
    go_ret
    exact ⟨by rw [HF.out]; rfl, B3.out⟩
end Go.Proofs.Ytkmcopenflakkaa
