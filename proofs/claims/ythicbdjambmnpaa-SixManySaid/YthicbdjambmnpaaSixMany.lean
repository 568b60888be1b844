/-
  PROVED HERE: 'SixManySaid': whatever h, l, kind and at are, the Go function SixMany of package wayleavelaw09 returns true, and its arguments read behind the call as they read before. No condition.
-/
import Derived.Test.YthicbdjambmnpaaSMask
namespace Go.Proofs.Ythicbdjambmnpaa
open Go.RowKit Go.Lib Go.ChangeShapes Go.WideShapes Go.ChangeAt

/-- The extension at a place, without its place in the packet; the first k of them. -/
def eightNth (l : List Ex) (i : Nat) : Ex := (l.getD i ⟨i, 0, 0⟩).setP 0
def eightTo (l : List Ex) : Nat → List Ex
  | 0 => []
  | k + 1 => eightTo l k ++ [eightNth l k]
theorem eightTo_len (l : List Ex) : ∀ k, (eightTo l k).length = k
  | 0 => rfl
  | k + 1 => by
    show (eightTo l k ++ [eightNth l k]).length = k + 1
    rw [List.length_append, eightTo_len l k]; rfl
theorem eightTo_next (l : List Ex) (k : Nat) : eightTo l k ++ [eightNth l k] = eightTo l (k + 1) := rfl
theorem eightNth_fit {l : List Ex} (h : ∀ x ∈ l, x.Fit) {i : Nat} (hi : i < 8) : (eightNth l i).Fit := by
  unfold eightNth
  by_cases hl : i < l.length
  · have hx := h _ (List.getElem_mem hl)
    rw [List.getD, List.getElem?_eq_getElem hl]
    exact ⟨hx.k, hx.l, show 0 < 65536 by decide⟩
  · rw [List.getD, List.getElem?_eq_none (by omega)]
    exact ⟨show i < 256 by omega, show 0 < 256 by decide, show 0 < 65536 by decide⟩
theorem eightTo_mem {l : List Ex} : ∀ {k : Nat} {x : Ex}, x ∈ eightTo l k → ∃ i, i < k ∧ x = eightNth l i
  | 0, x, h => by cases h
  | k + 1, x, h => by
    rcases List.mem_append.1 h with h | h
    · obtain ⟨i, hi, e⟩ := eightTo_mem h
      exact ⟨i, by omega, e⟩
    · rw [List.mem_singleton] at h
      exact ⟨k, by omega, h⟩
theorem eightTo_fit {l : List Ex} (h : ∀ x ∈ l, x.Fit) {k : Nat} (hk : k ≤ 8) : ∀ x ∈ eightTo l k, x.Fit := fun x hx => by
  obtain ⟨i, hi, rfl⟩ := eightTo_mem hx
  exact eightNth_fit h (by omega)
theorem eightTo_idle (l : List Ex) (k : Nat) : ∀ x ∈ eightTo l k, x.part < 65536 ∧ fragB x.k x.part = false := fun x hx => by
  obtain ⟨i, hi, rfl⟩ := eightTo_mem hx
  exact ⟨show 0 < 65536 by decide, zero_frag _⟩
theorem ExtsAt.grownNe {w w' : World} {B g h n : Nat} {xs : List Ex} (he : ExtsAt w B (some ⟨g, 0, none⟩) n xs) (hg : w.grownBy w' (some h)) (hne : g ≠ h) (hlt : g < w.heap.size) : ExtsAt w' B (some ⟨g, 0, none⟩) n xs := by
  have hb := hg.block g hlt (fun e => hne (Option.some.inj e))
  refine ⟨he.1, he.2.1, fun hn => ?_⟩
  obtain ⟨b, off, e, hbB, hc⟩ := he.2.2 hn
  cases e
  refine ⟨g, 0, rfl, hbB, fun j u hu => ?_⟩
  rw [← hc j u hu]
  unfold World.cell?
  simp only [hb]
theorem cut_five {goal : Prop} {H : World → Value → Prop} {M : World → Value → Value → Value → Value → Value → Prop} (h1 : (∀ W a b c d e, H W e → M W a b c d e) → goal) (h2 : ∀ W a b c d e, H W e → M W a b c d e) : goal := h1 h2
theorem hal0 (wr : World) (B : Nat) {C : Nat} (h1 : C ≤ wr.heap.size) (h2 : B ≤ C) (o : Obj) : Below B wr (wr.alloc o) := (Below.refl B wr).alloc (Nat.le_trans h2 h1) o

set_option maxRecDepth 100000 in
set_option maxHeartbeats 40000000 in
theorem sixMany_walk (f : Fr) (hok : f.Ok) (A : Option Addr) (len cap : Nat) (l : List Ex) (hcap : len ≤ cap) (hcm : cap ≤ maxLen) (ki : Nat) (hki : ki < 256) (av : Nat) (hav : av < 256) (w : World) (hI : ExtsAt w w.heap.size A len l) :
    Calls Try.prog 7 #[frC f, .slice A len cap, .int .u8 (ki : Int), .int .u8 (av : Int)] w fun e w' => e = .returned (.bool true) ∧ Below w.heap.size w w' := by
  have hq := Blk.new w 28 (frL f)
  have hB := (Below.refl w.heap.size w).alloc (Nat.le_refl _) (.cells (frL f).toArray 28)
  have HOK := Lib.hid hok
  have HI := Lib.hid hI
  have HL := Lib.hid hI.size
  have HFIT := Lib.hid hI.fit
  have hml : len ≤ 9223372036854775807 := by unfold maxLen at hcm; omega
  unfold frC
  obtain ⟨Z, hZ⟩ : ∃ Z, w.alloc (.cells (frL f).toArray 28) = Z := ⟨_, rfl⟩
  rw [hZ] at hq hB
  have HQ := Lib.hid hq
  have HB := Lib.hid hB
  have HZ := Lib.hid hZ
  clear hq hB hZ hok hI
  go_enter Try.func7, Try.ntmps7
  go_wp2_with fail
  rw [HZ.out]
  refine (awake_any _).mono ?_
  rintro e w1 ⟨rfl, hb1⟩
  have HQ1 := Lib.hid (HQ.out.below HQ.out.lt hb1)
  have HB1 := Lib.hid (HB.out.trans (hb1.mono HB.out.size))
  clear hb1 HZ HQ HB
  cases hr : rightB f with
  | false =>
    have HR := Lib.hid (fun W => hr ▸ rright_any HOK.out W)
    clear hr
    go_wp2_with ((with_reducible show wpList _ _ _ _ _ _); refine wpList_loadFw (.tmp 4) rfl (by rfl) w.heap.size (by rfl) f HOK.out HQ1.out ?_)
    refine (HR.out _).mono ?_
    rintro e w2 ⟨rfl, hb2⟩
    have HB2 := Lib.hid (HB1.out.trans (hb2.mono HB1.out.size))
    clear hb2
    go_wp2_with fail
    refine (awake_any _).mono ?_
    rintro e w3 ⟨rfl, hb3⟩
    go_wp2_with fail
    go_ret
    exact ⟨rfl, HB2.out.trans (hb3.mono HB2.out.size)⟩
  | true =>
    have HR := Lib.hid (fun W => hr ▸ rright_any HOK.out W)
    have HRT := Lib.hid hr
    clear hr
    go_wp2_with ((with_reducible show wpList _ _ _ _ _ _); refine wpList_loadFw (.tmp 4) rfl (by rfl) w.heap.size (by rfl) f HOK.out HQ1.out ?_)
    refine (HR.out _).mono ?_
    rintro e w2 ⟨rfl, hb2⟩
    have HQ2 := Lib.hid (HQ1.out.below HQ1.out.lt hb2)
    have HB2 := Lib.hid (HB1.out.trans (hb2.mono HB1.out.size))
    clear hb2 HQ1 HB1 HR
    have HE2 := Lib.hid (HI.out.below HB2.out)
    by_cases t1 : 8 < len
    · have t1' : (8 : Int) < (len : Int) := by omega
      go_wp2_with fail
      refine (awake_any _).mono ?_
      rintro e w3 ⟨rfl, hb3⟩
      go_wp2_with fail
      go_ret
      exact ⟨rfl, HB2.out.trans (hb3.mono HB2.out.size)⟩
    have t1' : ¬ (8 : Int) < (len : Int) := by omega
    go_wp2_with fail
    go_loopw [9, 10, 11] (fun v9 i v11 wr => ∃ (k : Nat), k ≤ 8 ∧ i = .int .i64 (k : Int) ∧ OwnE wr w2.heap.size v9 (eightTo l k) ∧ Below w2.heap.size w2 wr) (fun _ i _ _ => 8 - (intOf i).toNat)
    case atStart => exact ⟨0, by omega, rfl, OwnE.nil_ _ _, Below.refl _ _⟩
    case round =>
      obtain ⟨k, hk, rfl, hown, hBr⟩ := hrel
      have hEr := HE2.out.below (hBr.mono HB2.out.size)
      have hfk := eightTo_fit (l := l) HFIT.out (k := k) (by omega)
      by_cases hlt : k < 8
      · have hlt' : (k : Int) < 8 := by omega
        have uk : IntKind.u8.wrap (k : Int) = (k : Int) := by rw [IntKind.wrap_u8]; omega
        have hln := eightTo_len l k
        have hnx := eightTo_next l k
        obtain ⟨y, hy⟩ : ∃ y, eightNth l k = y := ⟨_, rfl⟩
        rw [hy] at hnx
        have hyf : y.Fit := by rw [← hy]; exact eightNth_fit HFIT.out hlt
        have HNX := Lib.hid hnx
        have HLN := Lib.hid hln
        have HYF := Lib.hid hyf
        by_cases hkl : k < len
        · have hkl' : (k : Int) < (len : Int) := by omega
          obtain ⟨x, hx⟩ : ∃ x, l[k]? = some x := ⟨_, List.getElem?_eq_getElem (by rw [HL.out]; exact hkl)⟩
          obtain ⟨b, off, rfl, hbw⟩ := hEr.addr (by omega)
          have hEa := hEr.below (hal0 wr w.heap.size hBr.size HB2.out.size (.cells #[.int .u8 (k : Int), .int .u8 0, .int .u16 0] 43))
          obtain ⟨d0, d1, d2⟩ := hEa.cell hx
          have hye : y = (⟨x.kind, x.long, 0⟩ : Ex) := by rw [← hy]; unfold eightNth; rw [List.getD, hx]; rfl
          have hal := Below.alloc hBr hBr.size (.cells #[.int .u8 (x.kind : Int), .int .u8 (x.long : Int), .int .u16 0] 43)
          have hz1 : (wr.alloc (.cells #[.int .u8 (x.kind : Int), .int .u8 (x.long : Int), .int .u16 0] 43)).heap.size = wr.heap.size + 1 := by simp
          have r9 := ExtsAt.laid (wr.alloc (.cells #[.int .u8 (x.kind : Int), .int .u8 (x.long : Int), .int .u16 0] 43)) [y] (fun q hq => by rw [List.mem_singleton] at hq; subst hq; exact HYF.out) 1 rfl
          rw [hz1] at r9
          rw [hye] at r9
          have r9 : ExtsAt ((wr.alloc (.cells #[.int .u8 (x.kind : Int), .int .u8 (x.long : Int), .int .u16 0] 43)).alloc (.cells #[.int .u8 (x.kind : Int), .int .u8 (x.long : Int), .int .u16 0] 43)) (wr.heap.size + 1 + 1) (some ⟨wr.heap.size + 1, 0, none⟩) 1 [(⟨x.kind, x.long, 0⟩ : Ex)] := r9
          have HR9 := Lib.hid r9
          have HOB := Lib.hid ((hown.alloc (.cells #[.int .u8 (x.kind : Int), .int .u8 (x.long : Int), .int .u16 0] 43)).alloc (.cells #[.int .u8 (x.kind : Int), .int .u8 (x.long : Int), .int .u16 0] 43))
          have HBA := Lib.hid ((hal.alloc (by rw [hz1]; exact Nat.le_succ_of_le hBr.size) (.cells #[.int .u8 (x.kind : Int), .int .u8 (x.long : Int), .int .u16 0] 43)))
          have HS2 := Lib.hid (show w2.heap.size ≤ ((wr.alloc (.cells #[.int .u8 (x.kind : Int), .int .u8 (x.long : Int), .int .u16 0] 43)).alloc (.cells #[.int .u8 (x.kind : Int), .int .u8 (x.long : Int), .int .u16 0] 43)).heap.size by simp; have := hBr.size; omega)
          have HYE := Lib.hid hye
          clear r9 hown hBr hal hEr hnx hln hyf hy hz1 hye
          go_wp2_with (at_builtin; refine wpList_appendE (o := ⟨some 51, _, _, _, _, _⟩) rfl _ _ rfl w2.heap.size _ (eightTo l k) (by rfl) HOB.out _ _ _ _ [(⟨x.kind, x.long, 0⟩ : Ex)] (by rfl) HR9.out (by rw [HLN.out]; omega) HS2.out ?_; intro v5 w5 ho5 hg5 _; have HO5 := Lib.hid ho5; have HB5 := Lib.hid (HBA.out.grown hg5 HS2.out (fun g hg => (HOB.out.lt g hg).1)); clear ho5 hg5)
          go_roundw
          case rel => exact ⟨k + 1, by omega, by go_num, by rw [← HNX.out, HYE.out]; exact HO5.out, HB5.out⟩
          case measure => simp [intOf]; omega
        · have hkl' : ¬ (k : Int) < (len : Int) := by omega
          have hye : y = (⟨k, 0, 0⟩ : Ex) := by rw [← hy]; unfold eightNth; rw [List.getD, List.getElem?_eq_none (by rw [HL.out]; omega)]; rfl
          have hal := Below.alloc hBr hBr.size (.cells #[.int .u8 (k : Int), .int .u8 0, .int .u16 0] 43)
          have hz1 : (wr.alloc (.cells #[.int .u8 (k : Int), .int .u8 0, .int .u16 0] 43)).heap.size = wr.heap.size + 1 := by simp
          have r9 := ExtsAt.laid (wr.alloc (.cells #[.int .u8 (k : Int), .int .u8 0, .int .u16 0] 43)) [y] (fun q hq => by rw [List.mem_singleton] at hq; subst hq; exact HYF.out) 1 rfl
          rw [hz1] at r9
          rw [hye] at r9
          have r9 : ExtsAt ((wr.alloc (.cells #[.int .u8 (k : Int), .int .u8 0, .int .u16 0] 43)).alloc (.cells #[.int .u8 (k : Int), .int .u8 0, .int .u16 0] 43)) (wr.heap.size + 1 + 1) (some ⟨wr.heap.size + 1, 0, none⟩) 1 [(⟨k, 0, 0⟩ : Ex)] := r9
          have HR9 := Lib.hid r9
          have HOB := Lib.hid ((hown.alloc (.cells #[.int .u8 (k : Int), .int .u8 0, .int .u16 0] 43)).alloc (.cells #[.int .u8 (k : Int), .int .u8 0, .int .u16 0] 43))
          have HBA := Lib.hid ((hal.alloc (by rw [hz1]; exact Nat.le_succ_of_le hBr.size) (.cells #[.int .u8 (k : Int), .int .u8 0, .int .u16 0] 43)))
          have HS2 := Lib.hid (show w2.heap.size ≤ ((wr.alloc (.cells #[.int .u8 (k : Int), .int .u8 0, .int .u16 0] 43)).alloc (.cells #[.int .u8 (k : Int), .int .u8 0, .int .u16 0] 43)).heap.size by simp; have := hBr.size; omega)
          have HYE := Lib.hid hye
          clear r9 hown hBr hal hEr hnx hln hyf hy hz1 hye
          go_wp2_with (at_builtin; refine wpList_appendE (o := ⟨some 51, _, _, _, _, _⟩) rfl _ _ rfl w2.heap.size _ (eightTo l k) (by rfl) HOB.out _ _ _ _ [(⟨k, 0, 0⟩ : Ex)] (by rfl) HR9.out (by rw [HLN.out]; omega) HS2.out ?_; intro v5 w5 ho5 hg5 _; have HO5 := Lib.hid ho5; have HB5 := Lib.hid (HBA.out.grown hg5 HS2.out (fun g hg => (HOB.out.lt g hg).1)); clear ho5 hg5)
          go_roundw
          case rel => exact ⟨k + 1, by omega, by go_num, by rw [← HNX.out, HYE.out]; exact HO5.out, HB5.out⟩
          case measure => simp [intOf]; omega
      · have hlt' : ¬ (k : Int) < 8 := by omega
        obtain rfl : k = 8 := by omega
        have h9 := whole_nine HOK.out HRT.out (eightTo l 8) (⟨ki, 0, 0⟩ : Ex) (eightTo_len l 8) (eightTo_idle l 8)
        have hsh := fun n h1 h2 => whole_short HOK.out HRT.out (eightTo l 7) (eightNth l 7) (eightTo_len l 7) (eightTo_idle l 7) n h1 h2
        rw [eightTo_next l 7] at hsh
        have hs7 : sumN (eightTo l 8) = sumN (eightTo l 7) + (eightNth l 7).n := by rw [← eightTo_next l 7, sumN_append]; rfl
        have hn7 := (eightNth l 7).n_ge
        have hs8 := sumN_le (eightTo l 8)
        have hg8 := sumN_ge (eightTo l 8)
        rw [eightTo_len l 8] at hs8 hg8
        have hw8 := whole_len HOK.out (eightTo l 8) []
        have hw9 := whole_len HOK.out (eightTo l 8 ++ [(⟨ki, 0, 0⟩ : Ex)]) []
        have hs9 := sumN_le (eightTo l 8 ++ [(⟨ki, 0, 0⟩ : Ex)])
        have hl8 := eightTo_len l 8
        have hf1 : ∀ x ∈ [(⟨ki, 0, 0⟩ : Ex)], x.Fit := fun x hx => by rw [List.mem_singleton] at hx; subst hx; exact ⟨hki, show 0 < 256 by decide, show 0 < 65536 by decide⟩
        have hf9 : ∀ x ∈ eightTo l 8 ++ [(⟨ki, 0, 0⟩ : Ex)], x.Fit := fun x hx => by
          rcases List.mem_append.1 hx with hx | hx
          · exact hfk x hx
          · exact hf1 x hx
        have hl9 : (eightTo l 8 ++ [(⟨ki, 0, 0⟩ : Ex)]).length = 9 := by rw [List.length_append, hl8]; rfl
        rw [hl9] at hs9
        have hwh9 := fun A59 c59 W (h : ExtsAt W W.heap.size A59 9 (eightTo l 8 ++ [(⟨ki, 0, 0⟩ : Ex)])) => whole_any HOK.out HRT.out A59 9 c59 (eightTo l 8 ++ [(⟨ki, 0, 0⟩ : Ex)]) (by omega) none 0 0 [] (by omega) W h (Rd.nil_ _)
        have hwh8 := fun A9 c9 W (h : ExtsAt W W.heap.size A9 8 (eightTo l 8)) => whole_any HOK.out HRT.out A9 8 c9 (eightTo l 8) (by omega) none 0 0 [] (by omega) W h (Rd.nil_ _)
        generalize sumN (eightTo l 8 ++ [(⟨ki, 0, 0⟩ : Ex)]) = m9 at *
        generalize sumN (eightTo l 7) = m7 at *
        generalize (eightNth l 7).n = n7 at *
        generalize eightTo l 8 = e8 at *
        generalize sumN e8 = m8 at *
        obtain ⟨A9, c9, rfl, hc9, hm9, hea9, _⟩ := hown.sl hfk hl8
        have HEA := Lib.hid hea9
        have HQR := Lib.hid (HQ2.out.below HQ2.out.lt hBr)
        have HBR := Lib.hid (HB2.out.trans (hBr.mono HB2.out.size))
        have HF1 := Lib.hid hf1
        have HF9 := Lib.hid hf9
        have HL8 := Lib.hid hl8
        have HL9 := Lib.hid hl9
        have HWH9 := Lib.hid hwh9
        have HWH8 := Lib.hid hwh8
        have HR9 := Lib.hid h9
        have HSH := Lib.hid hsh
        have HW8 := Lib.hid (show (wholeB f e8 []).length = 40 + m8 by rw [hw8]; rfl)
        have HW9 := Lib.hid (show (wholeB f (e8 ++ [(⟨ki, 0, 0⟩ : Ex)]) []).length = 40 + m9 by rw [hw9]; rfl)
        have HM9 := Lib.hid hs9
        have a8l : av % 8 < 8 := by omega
        obtain ⟨a8, ha8⟩ : ∃ a8, av % 8 = a8 := ⟨_, rfl⟩
        rw [ha8] at a8l
        obtain ⟨n8, hn8⟩ : ∃ n8, m8 - 1 - a8 = n8 := ⟨_, rfl⟩
        have HN8 := Lib.hid (show m7 ≤ n8 ∧ n8 < m8 by omega)
        have w81 : IntKind.i64.wrap (((40 + m8 : Nat) : Int) - 40) = (m8 : Int) := by rw [IntKind.wrap_i64]; omega
        have w82 : IntKind.i64.wrap ((m8 : Int) - 1) = (m8 : Int) - 1 := by rw [IntKind.wrap_i64]; omega
        have t81 : ((av : Int)).tmod 8 = (a8 : Int) := by rw [Int.tmod_eq_emod_of_nonneg (by omega)]; omega
        have t82 : (av : Int) % 8 = (a8 : Int) := by omega
        have t83 : IntKind.u8.wrap (a8 : Int) = (a8 : Int) := by rw [IntKind.wrap_u8]; omega
        have t84 : IntKind.i64.wrap (a8 : Int) = (a8 : Int) := by rw [IntKind.wrap_i64]; omega
        have w83 : IntKind.i64.wrap ((m8 : Int) - 1 - (a8 : Int)) = (n8 : Int) := by rw [IntKind.wrap_i64]; omega
        have u81 : IntKind.u8.wrap ((n8 : Int) / 256) = (n8 : Int) / 256 := by rw [IntKind.wrap_u8]; omega
        have u82 : IntKind.u8.wrap ((n8 : Int) % 256) = (n8 : Int) % 256 := by rw [IntKind.wrap_u8]; omega
        have w84 : IntKind.i64.wrap ((n8 : Int) / 256) = (n8 : Int) / 256 := by rw [IntKind.wrap_i64]; omega
        have w85 : IntKind.i64.wrap ((n8 : Int) % 256) = (n8 : Int) % 256 := by rw [IntKind.wrap_i64]; omega
        have m85 : ((n8 : Int)).tmod 256 = (n8 : Int) % 256 := Int.tmod_eq_emod_of_nonneg (by omega)
        have HU4 := Lib.hid (show (n8 : Int) / 256 = ((UInt8.ofNat (n8 / 256)).toNat : Int) by rw [u8nat (by omega)]; omega)
        have HU5 := Lib.hid (show (n8 : Int) % 256 = ((UInt8.ofNat (n8 % 256)).toNat : Int) by rw [u8nat (by omega)]; omega)
        have HBN := Lib.hid (show 40 + m8 ≤ 1000000 by omega)
        obtain ⟨Bn, hBn⟩ : ∃ Bn, 40 + m8 = Bn := ⟨_, rfl⟩
        rw [hBn] at w81 HW8 HBN
        have HG4 := Lib.hid (show 5 < Bn by omega)
        have l4 : (4 : Int) < (Bn : Int) := by omega
        have l5 : (5 : Int) < (Bn : Int) := by omega
        clear hBn h9 hsh hs7 hn7 hs8 hg8 hw8 hw9 hs9 hl8 hf1 hf9 hl9 hwh9 hwh8 hown hBr hEr hfk hea9 hlt hk ha8 hn8 a8l
        go_wp2_with fail
        apply cut_five (H := fun W v => Own8 W wr.heap.size v (wholeB f (e8 ++ [(⟨ki, 0, 0⟩ : Ex)]) []) ∧ Below wr.heap.size wr W)
        case h1 =>
          intro hc
          refine wp_region_held_drew (S := fun W => Below wr.heap.size wr W) (by kernel_rfl) (Below.refl _ _).drew (fun hHeld => ?_)
          obtain ⟨Y, hY⟩ : ∃ Y, wr.drew = Y := ⟨_, rfl⟩
          rw [hY] at hHeld ⊢
          clear hY
          refine wpAnyH_take (i := 0) (oi := ⟨some 52, _, _, _, _, _⟩) (v := .agg (frL f).toArray) rfl (by kernel_rfl) (by kernel_rfl) (by kernel_rfl) (fun _ _ _ h => h) (yieldsIf_load_mid (by rfl) 28 _ rfl w.heap.size 0 rfl (frL f) _ (fun W hW => (HQR.out.below HQR.out.lt hW).range) Try.underlying28 rfl (sizeFrL HOK.out)) hHeld ?_
          simp only [Act.put, List.setIfInBounds_toArray, List.set_cons_zero, List.set_cons_succ]
          refine wpAnyH_take (i := 2) (oi := ⟨some 54, _, _, _, _, _⟩) (v := .slice A9 8 c9) rfl (by kernel_rfl) (by kernel_rfl) (by kernel_rfl) (fun _ _ _ h => h) (Or.inl ⟨by rfl, fun _ _ => by go_simp⟩) hHeld ?_
          simp only [Act.put, List.setIfInBounds_toArray, List.set_cons_zero, List.set_cons_succ]
          refine wpAnyH_take (i := 4) (oi := ⟨some 56, _, _, _, _, _⟩) (v := .int .u8 (ki : Int)) rfl (by kernel_rfl) (by kernel_rfl) (by kernel_rfl) (fun _ _ _ h => h) (Or.inl ⟨by rfl, fun _ _ => by go_simp⟩) hHeld ?_
          simp only [Act.put, List.setIfInBounds_toArray, List.set_cons_zero, List.set_cons_succ]
          refine wpAnyH_take (i := 5) (oi := ⟨some 57, _, _, _, _, _⟩) (v := .agg #[.int .u8 (ki : Int), .int .u8 0, .int .u16 0]) rfl (by kernel_rfl) (by kernel_rfl) (by kernel_rfl) (fun _ _ _ h => h) (yields_build (by rfl) 43 _ rfl [(0, .int .u8 (ki : Int))] (by kernel_rfl) _ (by kernel_rfl)) hHeld ?_
          simp only [Act.put, List.setIfInBounds_toArray, List.set_cons_zero, List.set_cons_succ]
          refine wpAnyH_ready (rs := [1, 6]) (by kernel_rfl) (by simp) ?_
          refine AllReadyH.cons (o := ⟨some 53, _, _, _, _, _⟩) rfl (fun K hK => ?_) ?_
          · skip
            go_simp
            have hn := emptyE (base := wr.heap.size) Y hHeld.size
            have hh := hHeld.alloc hHeld.size (.cells #[] 43)
            have h53 : Y.heap.size < (Y.alloc (.cells #[] 43)).heap.size := by simp
            have hal := Lib.hid (fun (B : Nat) (h : B ≤ Y.heap.size) => (Below.refl B Y).alloc h (.cells #[] 43))
            generalize Y.alloc (.cells #[] 43) = wa at hn hh h53 hal ⊢
            generalize Y.heap.size = g53 at hn h53 ⊢
            have hn := Lib.hid hn
            refine hK.out _ _ hh (fun hHeld => ?_)
            clear hK K hh
            refine wpAnyH_ready (rs := [3, 6]) (by kernel_rfl) (by simp) ?_
            refine AllReadyH.cons (o := ⟨some 55, _, _, _, _, _⟩) rfl (fun K hK => ?_) ?_
            · skip
              refine step_appendE rfl _ _ rfl wr.heap.size _ [] (by rfl) hn.out _ _ _ _ e8 (by rfl) (HEA.out.below hHeld) (by rw [List.length_nil]; omega) hHeld.size ?_
              intro v55 wb ho55 hg55 _
              rw [List.nil_append] at ho55
              have hlt55 := Lib.hid (fun g hg => ((hn.out).lt g hg).1)
              have hh := hHeld.grown hg55 hHeld.size (fun g hg => hlt55.out g hg)
              have HO55 := Lib.hid ho55
              have HG55 : Hid (wa.grownBy wb (some g53)) := Lib.hid hg55
              clear ho55 hg55
              refine hK.out _ _ hh (fun hHeld => ?_)
              clear hK K hh
              refine wpAnyH_ready (rs := [6]) (by kernel_rfl) (by simp) ?_
              refine AllReadyH.cons (o := ⟨some 58, _, _, _, _, _⟩) rfl (fun K hK => ?_) ?_
              · skip
                go_simp
                have hs : ExtsAt (wb.alloc (.cells #[.int .u8 (ki : Int), .int .u8 0, .int .u16 0] 43)) (wb.heap.size + 1) (some ⟨wb.heap.size, 0, none⟩) 1 [(⟨ki, 0, 0⟩ : Ex)] := ExtsAt.laid wb [(⟨ki, 0, 0⟩ : Ex)] HF1.out 1 rfl
                have hs2 := hs.more (B' := (wb.alloc (.cells #[.int .u8 (ki : Int), .int .u8 0, .int .u16 0] 43)).heap.size) (by simp)
                clear hs
                have h58 : wb.heap.size < (wb.alloc (.cells #[.int .u8 (ki : Int), .int .u8 0, .int .u16 0] 43)).heap.size := by simp
                have hh := hHeld.alloc hHeld.size (.cells #[.int .u8 (ki : Int), .int .u8 0, .int .u16 0] 43)
                have hal2 := Lib.hid (fun (B : Nat) (h : B ≤ wb.heap.size) => (Below.refl B wb).alloc h (.cells #[.int .u8 (ki : Int), .int .u8 0, .int .u16 0] 43))
                generalize wb.alloc (.cells #[.int .u8 (ki : Int), .int .u8 0, .int .u16 0] 43) = wc at hs2 hh hal2 h58 ⊢
                generalize wb.heap.size = g58 at hs2 h58 ⊢
                have hs2 := Lib.hid hs2
                refine hK.out _ _ hh (fun hHeld => ?_)
                clear hK K hh
                refine wpAnyH_ready (rs := [7]) (by kernel_rfl) (by simp) ?_
                refine AllReadyH.cons (o := ⟨some 59, _, _, _, _, _⟩) rfl (fun K hK => ?_) ?_
                · skip
                  refine step_appendE rfl _ _ rfl wr.heap.size _ e8 (by rfl) (HO55.out.below (hal2.out _ (Nat.le_refl _))) _ _ _ _ [(⟨ki, 0, 0⟩ : Ex)] (by rfl) hs2.out (by rw [HL8.out]; decide) hHeld.size ?_
                  intro v59 w59 ho59 hg59 _
                  have hl55 := Lib.hid (fun g hg => (((HO55.out.below (hal2.out _ (Nat.le_refl _)))).lt g hg).1)
                  have hh := hHeld.grown hg59 hHeld.size (fun g hg => hl55.out g hg)
                  obtain ⟨A59, c59, rfl, hc59, hm59, hea59, _⟩ := ho59.sl HF9.out HL9.out
                  have HEA59 := Lib.hid hea59
                  clear ho59 hg59 hea59
                  refine hK.out _ _ hh (fun hHeld => ?_)
                  clear hK K hh
                  refine wpAnyH_ready (rs := [8]) (by kernel_rfl) (by simp) ?_
                  refine AllReadyH.cons (o := ⟨some 60, _, _, _, _, _⟩) rfl (fun K hK => ?_) ?_
                  · skip
                    go_simp
                    refine (HWH9.out A59 c59 w59 HEA59.out).mono ?_
                    rintro e60 w60 ⟨v60, rfl, ho60, hb60⟩
                    have hh := hHeld.trans (hb60.mono hHeld.size)
                    have HO60 := Lib.hid (ho60.base_le hHeld.size)
                    clear ho60 hb60
                    refine hK.out _ _ hh (fun hHeld => ?_)
                    clear hK K hh
                    refine wpAnyH_take (i := 9) (oi := ⟨some 12, _, _, _, _, _⟩) (v := v60) rfl (by kernel_rfl) (by kernel_rfl) (by kernel_rfl) (fun _ _ _ h => h) (Or.inl ⟨by rfl, fun _ _ => by go_simp⟩) hHeld ?_
                    simp only [Act.put, List.setIfInBounds_toArray, List.set_cons_zero, List.set_cons_succ]
                    refine wpAnyH_done (by kernel_rfl) ?_ _
                    obtain ⟨s53, hs53⟩ : ∃ s, Value.slice (some ⟨g53, 0, none⟩) 0 0 = s := ⟨_, rfl⟩
                    obtain ⟨s58, hs58⟩ : ∃ s, Value.slice (some ⟨g58, 0, none⟩) 1 1 = s := ⟨_, rfl⟩
                    obtain ⟨s59, hs59⟩ : ∃ s, Value.slice A59 9 c59 = s := ⟨_, rfl⟩
                    rw [hs53, hs58, hs59]
                    clear hs53 hs58 hs59
                    exact hc w60 s53 v55 s58 s59 v60 ⟨HO60.out, hHeld⟩
                  exact AllReadyH.nil
                exact AllReadyH.nil
              exact AllReadyH.nil
            refine AllReadyH.cons (o := ⟨some 58, _, _, _, _, _⟩) rfl (fun K hK => ?_) ?_
            · skip
              go_simp
              have hs : ExtsAt (wa.alloc (.cells #[.int .u8 (ki : Int), .int .u8 0, .int .u16 0] 43)) (wa.heap.size + 1) (some ⟨wa.heap.size, 0, none⟩) 1 [(⟨ki, 0, 0⟩ : Ex)] := ExtsAt.laid wa [(⟨ki, 0, 0⟩ : Ex)] HF1.out 1 rfl
              have hs2 := hs.more (B' := (wa.alloc (.cells #[.int .u8 (ki : Int), .int .u8 0, .int .u16 0] 43)).heap.size) (by simp)
              clear hs
              have h58 : wa.heap.size < (wa.alloc (.cells #[.int .u8 (ki : Int), .int .u8 0, .int .u16 0] 43)).heap.size := by simp
              have hh := hHeld.alloc hHeld.size (.cells #[.int .u8 (ki : Int), .int .u8 0, .int .u16 0] 43)
              have hal2 := Lib.hid (fun (B : Nat) (h : B ≤ wa.heap.size) => (Below.refl B wa).alloc h (.cells #[.int .u8 (ki : Int), .int .u8 0, .int .u16 0] 43))
              generalize wa.alloc (.cells #[.int .u8 (ki : Int), .int .u8 0, .int .u16 0] 43) = wb at hs2 hh hal2 h58 ⊢
              generalize wa.heap.size = g58 at hs2 h58 h53 ⊢
              have hs2 := Lib.hid hs2
              refine hK.out _ _ hh (fun hHeld => ?_)
              clear hK K hh
              refine wpAnyH_ready (rs := [3]) (by kernel_rfl) (by simp) ?_
              refine AllReadyH.cons (o := ⟨some 55, _, _, _, _, _⟩) rfl (fun K hK => ?_) ?_
              · skip
                refine step_appendE rfl _ _ rfl wr.heap.size _ [] (by rfl) (hn.out.below (hal2.out _ (Nat.le_refl _))) _ _ _ _ e8 (by rfl) (HEA.out.below hHeld) (by rw [List.length_nil]; omega) hHeld.size ?_
                intro v55 wc ho55 hg55 _
                rw [List.nil_append] at ho55
                have hlt55 := Lib.hid (fun g hg => (((hn.out.below (hal2.out _ (Nat.le_refl _)))).lt g hg).1)
                have hh := hHeld.grown hg55 hHeld.size (fun g hg => hlt55.out g hg)
                have HO55 := Lib.hid ho55
                have HG55 : Hid (wb.grownBy wc (some g53)) := Lib.hid hg55
                clear ho55 hg55
                refine hK.out _ _ hh (fun hHeld => ?_)
                clear hK K hh
                refine wpAnyH_ready (rs := [7]) (by kernel_rfl) (by simp) ?_
                refine AllReadyH.cons (o := ⟨some 59, _, _, _, _, _⟩) rfl (fun K hK => ?_) ?_
                · skip
                  refine step_appendE rfl _ _ rfl wr.heap.size _ e8 (by rfl) HO55.out _ _ _ _ [(⟨ki, 0, 0⟩ : Ex)] (by rfl) (hs2.out.grownNe HG55.out (Nat.ne_of_gt h53) h58) (by rw [HL8.out]; decide) hHeld.size ?_
                  intro v59 w59 ho59 hg59 _
                  have hl55 := Lib.hid (fun g hg => ((HO55.out).lt g hg).1)
                  have hh := hHeld.grown hg59 hHeld.size (fun g hg => hl55.out g hg)
                  obtain ⟨A59, c59, rfl, hc59, hm59, hea59, _⟩ := ho59.sl HF9.out HL9.out
                  have HEA59 := Lib.hid hea59
                  clear ho59 hg59 hea59
                  refine hK.out _ _ hh (fun hHeld => ?_)
                  clear hK K hh
                  refine wpAnyH_ready (rs := [8]) (by kernel_rfl) (by simp) ?_
                  refine AllReadyH.cons (o := ⟨some 60, _, _, _, _, _⟩) rfl (fun K hK => ?_) ?_
                  · skip
                    go_simp
                    refine (HWH9.out A59 c59 w59 HEA59.out).mono ?_
                    rintro e60 w60 ⟨v60, rfl, ho60, hb60⟩
                    have hh := hHeld.trans (hb60.mono hHeld.size)
                    have HO60 := Lib.hid (ho60.base_le hHeld.size)
                    clear ho60 hb60
                    refine hK.out _ _ hh (fun hHeld => ?_)
                    clear hK K hh
                    refine wpAnyH_take (i := 9) (oi := ⟨some 12, _, _, _, _, _⟩) (v := v60) rfl (by kernel_rfl) (by kernel_rfl) (by kernel_rfl) (fun _ _ _ h => h) (Or.inl ⟨by rfl, fun _ _ => by go_simp⟩) hHeld ?_
                    simp only [Act.put, List.setIfInBounds_toArray, List.set_cons_zero, List.set_cons_succ]
                    refine wpAnyH_done (by kernel_rfl) ?_ _
                    obtain ⟨s53, hs53⟩ : ∃ s, Value.slice (some ⟨g53, 0, none⟩) 0 0 = s := ⟨_, rfl⟩
                    obtain ⟨s58, hs58⟩ : ∃ s, Value.slice (some ⟨g58, 0, none⟩) 1 1 = s := ⟨_, rfl⟩
                    obtain ⟨s59, hs59⟩ : ∃ s, Value.slice A59 9 c59 = s := ⟨_, rfl⟩
                    rw [hs53, hs58, hs59]
                    clear hs53 hs58 hs59
                    exact hc w60 s53 v55 s58 s59 v60 ⟨HO60.out, hHeld⟩
                  exact AllReadyH.nil
                exact AllReadyH.nil
              exact AllReadyH.nil
            exact AllReadyH.nil
          refine AllReadyH.cons (o := ⟨some 58, _, _, _, _, _⟩) rfl (fun K hK => ?_) ?_
          · skip
            go_simp
            have hs : ExtsAt (Y.alloc (.cells #[.int .u8 (ki : Int), .int .u8 0, .int .u16 0] 43)) (Y.heap.size + 1) (some ⟨Y.heap.size, 0, none⟩) 1 [(⟨ki, 0, 0⟩ : Ex)] := ExtsAt.laid Y [(⟨ki, 0, 0⟩ : Ex)] HF1.out 1 rfl
            have hs2 := hs.more (B' := (Y.alloc (.cells #[.int .u8 (ki : Int), .int .u8 0, .int .u16 0] 43)).heap.size) (by simp)
            clear hs
            have h58 : Y.heap.size < (Y.alloc (.cells #[.int .u8 (ki : Int), .int .u8 0, .int .u16 0] 43)).heap.size := by simp
            have hh := hHeld.alloc hHeld.size (.cells #[.int .u8 (ki : Int), .int .u8 0, .int .u16 0] 43)
            have hal2 := Lib.hid (fun (B : Nat) (h : B ≤ Y.heap.size) => (Below.refl B Y).alloc h (.cells #[.int .u8 (ki : Int), .int .u8 0, .int .u16 0] 43))
            generalize Y.alloc (.cells #[.int .u8 (ki : Int), .int .u8 0, .int .u16 0] 43) = wa at hs2 hh hal2 h58 ⊢
            generalize Y.heap.size = g58 at hs2 h58 ⊢
            have hs2 := Lib.hid hs2
            refine hK.out _ _ hh (fun hHeld => ?_)
            clear hK K hh
            refine wpAnyH_ready (rs := [1]) (by kernel_rfl) (by simp) ?_
            refine AllReadyH.cons (o := ⟨some 53, _, _, _, _, _⟩) rfl (fun K hK => ?_) ?_
            · skip
              go_simp
              have hn := emptyE (base := wr.heap.size) wa hHeld.size
              have hh := hHeld.alloc hHeld.size (.cells #[] 43)
              have h53 : wa.heap.size < (wa.alloc (.cells #[] 43)).heap.size := by simp
              have hal := Lib.hid (fun (B : Nat) (h : B ≤ wa.heap.size) => (Below.refl B wa).alloc h (.cells #[] 43))
              generalize wa.alloc (.cells #[] 43) = wb at hn hh h53 hal ⊢
              generalize wa.heap.size = g53 at hn h53 h58 ⊢
              have hn := Lib.hid hn
              refine hK.out _ _ hh (fun hHeld => ?_)
              clear hK K hh
              refine wpAnyH_ready (rs := [3]) (by kernel_rfl) (by simp) ?_
              refine AllReadyH.cons (o := ⟨some 55, _, _, _, _, _⟩) rfl (fun K hK => ?_) ?_
              · skip
                refine step_appendE rfl _ _ rfl wr.heap.size _ [] (by rfl) hn.out _ _ _ _ e8 (by rfl) (HEA.out.below hHeld) (by rw [List.length_nil]; omega) hHeld.size ?_
                intro v55 wc ho55 hg55 _
                rw [List.nil_append] at ho55
                have hlt55 := Lib.hid (fun g hg => ((hn.out).lt g hg).1)
                have hh := hHeld.grown hg55 hHeld.size (fun g hg => hlt55.out g hg)
                have HO55 := Lib.hid ho55
                have HG55 : Hid (wb.grownBy wc (some g53)) := Lib.hid hg55
                clear ho55 hg55
                refine hK.out _ _ hh (fun hHeld => ?_)
                clear hK K hh
                refine wpAnyH_ready (rs := [7]) (by kernel_rfl) (by simp) ?_
                refine AllReadyH.cons (o := ⟨some 59, _, _, _, _, _⟩) rfl (fun K hK => ?_) ?_
                · skip
                  refine step_appendE rfl _ _ rfl wr.heap.size _ e8 (by rfl) HO55.out _ _ _ _ [(⟨ki, 0, 0⟩ : Ex)] (by rfl) ((hs2.out.below (hal.out _ (Nat.le_refl _))).grownNe HG55.out (Nat.ne_of_lt h58) (Nat.lt_trans h58 h53)) (by rw [HL8.out]; decide) hHeld.size ?_
                  intro v59 w59 ho59 hg59 _
                  have hl55 := Lib.hid (fun g hg => ((HO55.out).lt g hg).1)
                  have hh := hHeld.grown hg59 hHeld.size (fun g hg => hl55.out g hg)
                  obtain ⟨A59, c59, rfl, hc59, hm59, hea59, _⟩ := ho59.sl HF9.out HL9.out
                  have HEA59 := Lib.hid hea59
                  clear ho59 hg59 hea59
                  refine hK.out _ _ hh (fun hHeld => ?_)
                  clear hK K hh
                  refine wpAnyH_ready (rs := [8]) (by kernel_rfl) (by simp) ?_
                  refine AllReadyH.cons (o := ⟨some 60, _, _, _, _, _⟩) rfl (fun K hK => ?_) ?_
                  · skip
                    go_simp
                    refine (HWH9.out A59 c59 w59 HEA59.out).mono ?_
                    rintro e60 w60 ⟨v60, rfl, ho60, hb60⟩
                    have hh := hHeld.trans (hb60.mono hHeld.size)
                    have HO60 := Lib.hid (ho60.base_le hHeld.size)
                    clear ho60 hb60
                    refine hK.out _ _ hh (fun hHeld => ?_)
                    clear hK K hh
                    refine wpAnyH_take (i := 9) (oi := ⟨some 12, _, _, _, _, _⟩) (v := v60) rfl (by kernel_rfl) (by kernel_rfl) (by kernel_rfl) (fun _ _ _ h => h) (Or.inl ⟨by rfl, fun _ _ => by go_simp⟩) hHeld ?_
                    simp only [Act.put, List.setIfInBounds_toArray, List.set_cons_zero, List.set_cons_succ]
                    refine wpAnyH_done (by kernel_rfl) ?_ _
                    obtain ⟨s53, hs53⟩ : ∃ s, Value.slice (some ⟨g53, 0, none⟩) 0 0 = s := ⟨_, rfl⟩
                    obtain ⟨s58, hs58⟩ : ∃ s, Value.slice (some ⟨g58, 0, none⟩) 1 1 = s := ⟨_, rfl⟩
                    obtain ⟨s59, hs59⟩ : ∃ s, Value.slice A59 9 c59 = s := ⟨_, rfl⟩
                    rw [hs53, hs58, hs59]
                    clear hs53 hs58 hs59
                    exact hc w60 s53 v55 s58 s59 v60 ⟨HO60.out, hHeld⟩
                  exact AllReadyH.nil
                exact AllReadyH.nil
              exact AllReadyH.nil
            exact AllReadyH.nil
          exact AllReadyH.nil
        case h2 =>
          intro wz s53 s55 s58 s59 v12 hcc
          obtain ⟨ho12, hb12⟩ := hcc
          obtain ⟨A12, c12, rfl, hc12, hm12, hr12⟩ := ho12.form HW9.out
          have HRB := Lib.hid hr12
          have HB12 := Lib.hid (HBR.out.trans (hb12.mono HBR.out.size))
          have HQ12 := Lib.hid (HQR.out.below HQR.out.lt hb12)
          have HE12 := Lib.hid ((HEA.out.below hb12).more hb12.size)
          clear ho12 hb12 hr12
          go_wp2_with fail
          refine (read_as (rdF_no (by rw [HR9.out]; decide)) HR9.out (by have := HM9.out; omega) hc12 hm12 HRB.out).mono ?_
          rintro e13 w13 ⟨rfl, hb13⟩
          have HB13 := Lib.hid (HB12.out.trans (hb13.mono HB12.out.size))
          have HQ13 := Lib.hid (HQ12.out.below HQ12.out.lt hb13)
          have HE13 := Lib.hid ((HE12.out.below hb13).more hb13.size)
          clear hb13
          go_wp2_with (first
            | ((with_reducible show wpList _ _ _ _ _ _); refine wpList_storeNew rfl (.tmp 13) (.tmp 64) rfl (by rfl) Fr.zero Fr.ok_zero (by rfl) ?_; intro w14 _ hb14 hz14; clear hz14; have HB14 := Lib.hid (HB13.out.trans (hb14.mono HB13.out.size)); have HQ14 := Lib.hid (HQ13.out.below HQ13.out.lt hb14); have HE14 := Lib.hid ((HE13.out.below hb14).more hb14.size); clear hb14)
            | ((with_reducible show wpList _ _ _ _ _ _); refine wpList_loadF rfl (.tmp 4) rfl w.heap.size (by rfl) f HOK.out HQ14.out ?_))
          refine (HWH8.out A9 c9 w14 HE14.out).mono ?_
          rintro e15 w15 ⟨v15, rfl, ho15, hb15⟩
          obtain ⟨g15, c15, rfl, hc15, hm15, hbg15, hgl15, _⟩ := ho15.formG HW8.out (by have := HG4.out; omega)
          have HO15 := Lib.hid ho15
          have HB15 := Lib.hid (HB14.out.trans (hb15.mono HB14.out.size))
          have HG15 := Lib.hid (Nat.le_trans HB14.out.size hbg15)
          clear ho15 hb15 hbg15 hgl15
          go_wp2_with (first
            | ((with_reducible show wpList _ _ _ _ _ _); refine wpList_storeO rfl (.tmp 81) (.tmp 80) rfl g15 4 (by rfl) (UInt8.ofNat (n8 / 256)) ((n8 : Int) / 256) HU4.out (by rfl) (wholeB f e8 []) Bn c15 w14.heap.size HW8.out HO15.out (by have := HG4.out; omega) ?_; intro w16 ho16 hb16; have HO16 := Lib.hid ho16; have HB16 := Lib.hid (HB15.out.trans (hb16.mono HG15.out)); clear ho16 hb16)
            | ((with_reducible show wpList _ _ _ _ _ _); refine wpList_storeO rfl (.tmp 86) (.tmp 85) rfl g15 5 (by rfl) (UInt8.ofNat (n8 % 256)) ((n8 : Int) % 256) HU5.out (by rfl) ((wholeB f e8 []).set 4 (UInt8.ofNat (n8 / 256))) Bn c15 w14.heap.size (by rw [List.length_set]; exact HW8.out) HO16.out HG4.out ?_; intro w17 ho17 hb17; have HO17 := Lib.hid ho17; have HB17 := Lib.hid (HB16.out.trans (hb17.mono HG15.out)); clear ho17 hb17))
          obtain ⟨A17, c17, hv17, hc17, hm17, hr17⟩ := HO17.out.form (n := Bn) (by rw [List.length_set, List.length_set]; exact HW8.out)
          obtain ⟨rfl, rfl⟩ : A17 = some ⟨g15, 0, none⟩ ∧ c17 = c15 := by cases hv17; exact ⟨rfl, rfl⟩
          clear hv17
          have h2 := HSH.out n8 HN8.out.1 HN8.out.2
          refine (read_as (rdF_no (by rw [h2]; decide)) h2 HBN.out hc17 hm17 hr17).mono ?_
          rintro e18 w18 ⟨rfl, hb18⟩
          have HB18 := Lib.hid (HB17.out.trans (hb18.mono HB17.out.size))
          clear hb18 hr17 h2
          go_wp2_with ((with_reducible show wpList _ _ _ _ _ _); refine wpList_storeNew rfl (.tmp 17) (.tmp 90) rfl (by rfl) Fr.zero Fr.ok_zero (by rfl) ?_; intro w19 _ hb19 hz19; clear hz19; have HB19 := Lib.hid (HB18.out.trans (hb19.mono HB18.out.size)); clear hb19)
          go_ret
          exact ⟨rfl, HB19.out⟩

theorem sixMany_walks : WalksTrue 7 Try.f7 := by
  intro H enc W base args ds p hval hA
  rw [Try.params7] at hA hval
  obtain ⟨v0, vs0, d0, ds0, p0, q0, hargs, rfl, rfl, h0, r0⟩ := trodAll_cons hA
  obtain ⟨v1, vs1, d1, ds1, p1, q1, rfl, rfl, rfl, h1, r1⟩ := trodAll_cons r0
  obtain ⟨v2, vs2, d2, ds2, p2, q2, rfl, rfl, rfl, h2, r2⟩ := trodAll_cons r1
  obtain ⟨v3, vs3, d3, ds3, p3, q3, rfl, rfl, rfl, h3, r3⟩ := trodAll_cons r2
  obtain ⟨rfl, rfl, rfl⟩ := trodAll_nil r3
  obtain rfl : args = #[v0, v1, v2, v3] := by cases args; simp_all
  obtain ⟨L0, rfl, s0⟩ := open_sixh (hval 0 28 v0 rfl rfl) h0
  obtain ⟨A1, len1, cap1, xs1, rfl, hc1, hm1, hI1⟩ := open_exts (hval 1 40 v1 rfl rfl) h1
  obtain ⟨a2, rfl, rfl, rfl, w2⟩ := open_int Try.underlying5 (hval 2 5 v2 rfl rfl) h2
  obtain ⟨g2a, g2b⟩ := range_u8 w2
  obtain ⟨n2, rfl⟩ := Int.eq_ofNat_of_zero_le g2a
  obtain ⟨a3, rfl, rfl, rfl, w3⟩ := open_int Try.underlying5 (hval 3 5 v3 rfl rfl) h3
  obtain ⟨g3a, g3b⟩ := range_u8 w3
  obtain ⟨n3, rfl⟩ := Int.eq_ofNat_of_zero_le g3a
  exact sixMany_walk L0 s0 A1 len1 cap1 xs1 hc1 hm1 n2 (by omega) n3 (by omega) W hI1

theorem sixMany_said : Rows.SixManySaid :=
  OpenClaim.holds_of_wide 7 Try.f7 rfl rfl rfl rfl rfl rfl rfl ⟨rfl, rfl, rfl, rfl, rfl⟩ rfl rfl rfl rfl rfl (by kernel_rfl) Try.func7 (by kernel_rfl)
    (of_decide_eq_true (by kernel_rfl)) (by unfold Func.isWrapper; first | (rw [if_pos (by decide +kernel)]; kernel_rfl) | (rw [if_neg (by decide +kernel)]; exact ⟨rfl, rfl⟩))
    (fun os started H enc _ => law_lift (s := Rows.sixManySpec) Try.func7 (by kernel_rfl) rfl rfl (by intro H ds hd; match ds, hd with | [_, _, _, _], _ => exact ⟨rfl, rfl, rfl⟩) (by kernel_rfl) sixMany_walks os started H enc
      (ChangeSpec.witness6 (enc := enc) (C := Try.checked) false ⟨#[], #[.agg #[.int .i64 0, .int .i64 0, .int .i64 0, .bool false, .int .i64 0, .int .i64 0, .bool false, .int .u8 0, .int .u8 0, .int .u8 0, .int .u8 0, .int .u8 0, .int .u8 0, .int .u8 0, .int .u8 0, .int .u8 0, .int .u8 0, .int .u8 0, .int .u8 0, .int .u8 0, .int .u8 0, .int .u8 0, .int .u8 0, .bool false, .int .u8 0, .int .u8 0, .int .u8 0, .int .u8 0, .int .u8 0, .int .u8 0, .int .u8 0, .int .u8 0, .int .u8 0, .int .u8 0, .int .u8 0, .int .u8 0, .int .u8 0, .int .u8 0, .int .u8 0, .int .u8 0], .slice none 0 0, .int .u8 0, .int .u8 0], []⟩ 8 (by kernel_rfl) (by kernel_rfl) (by kernel_rfl) (by kernel_rfl)))

end Go.Proofs.Ythicbdjambmnpaa
