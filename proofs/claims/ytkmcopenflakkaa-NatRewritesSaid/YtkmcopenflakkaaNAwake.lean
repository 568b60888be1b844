/-
  The statements' 'awake', which answers true.
-/
import Derived.Test.YtkmcopenflakkaaNOpen
import Derived.Test.YtkmcopenflakkaaNMade
import Derived.Test.YtkmcopenflakkaaKRMake
import Derived.Lib.SlBytesConst
namespace Go.Proofs.Ytkmcopenflakkaa
set_option maxRecDepth 100000
open Go.RowKit Go.Lib

/-- 10.0.0.9; the tuple that goes there. -/
def AD : Ad := ⟨false, [10, 0, 0, 9, 0, 0, 0, 0, 0, 0, 0, 0, 0, 0, 0, 0]⟩
def SD : Tu := tuN SM AD 8080 true
def LA : List UInt8 := makeK Lk.zero SM 2 [104, 105]
def LB : List UInt8 := makeK Lk.zero SD 2 [104, 105]
theorem SD_ok : SD.Ok := ⟨rfl, rfl⟩
theorem sm_ok : MakeOk Lk.zero SM 2 := okB_yes (by decide)
theorem sd_ok : MakeOk Lk.zero SD 2 := okB_yes (by decide)
theorem sm_len : LA.length = 56 := makeK_len zero_six SM_ok 2 [104, 105]
theorem sd_len : LB.length = 56 := makeK_len zero_six SD_ok 2 [104, 105]
theorem sm_read : readK LA = ⟨0, SM, 2, 14, 34, 56⟩ := by
  have h := make_read (L := Lk.zero) (t := SM) (f := 2) (load := [104, 105]) zero_six SM_ok sm_ok (by decide) []
  rw [List.append_nil] at h
  exact h
theorem sm_kind : (readK LA).kind = 0 := by rw [sm_read]
theorem may_to : mayN (readK (LA ++ [1, 2])) AD 8080 = true := by
  rw [(natL_more sm_kind AD 0 true).2, sm_read]
  rfl
theorem may_from : mayN (readK LA) SM.s 1000 = true := by
  rw [sm_read]
  rfl
theorem may_no : mayN (readK LA) AD 65536 = false := by
  rw [sm_read]
  rfl
theorem nat_to : natL (LA ++ [1, 2]) AD 8080 true = LB := by
  rw [(natL_more sm_kind AD 8080 true).1]
  exact made_turn zero_six SM_ok sm_ok (by decide) (a := AD) rfl (m := 8080) rfl (by decide) (by decide) true
theorem nat_from : natL LA SM.s 1000 false = LA :=
  made_turn zero_six SM_ok sm_ok (by decide) (a := SM.s) rfl (m := 1000) rfl (by decide) (by decide) false
theorem mk_y {t : Tu} (ho : t.Ok) (hm : MakeOk Lk.zero t 2) (hl : ihN t + (shN_ t + 2) ≤ 65535) {L : List UInt8} (e : makeK Lk.zero t 2 [104, 105] = L) (hn : L.length = 56) (W : World) (A : Option Addr) (c : Nat) (hR : Rd W W.heap.size A 2 [104, 105]) :
    Calls Try.prog 18 #[lkC Lk.zero (.slice none 0 0), tuC t, .int .i64 2, .slice A 2 c] W fun e w' => ∃ A' c', e = .returned (.slice A' 56 c') ∧ 56 ≤ c' ∧ c' ≤ maxLen ∧ Own8 w' W.heap.size (.slice A' 56 c') L ∧ Below W.heap.size W w' := by
  refine (rmake_any zero_six (A := none) (n := 0) (cap := 0) (by omega) ho hm (B := A) (len := 2) (cb := c) (load := [104, 105]) hl W (TagsAt.nil_ none) hR).mono ?_
  rintro e' w' ⟨v, rfl, ho, hb⟩
  rw [e] at ho
  obtain ⟨A', c', rfl, h1, h2, _⟩ := ho.formN hn
  exact ⟨A', c', rfl, h1, h2, ho, hb⟩
theorem cut_app {goal : Prop} {H : World → Option Addr → Nat → Prop} {M : World → Nat → Value → Nat → Option Addr → Nat → Option Addr → Nat → Prop} (h1 : (∀ W a v b A c A' c', H W A' c' → M W a v b A c A' c') → goal) (h2 : ∀ W a v b A c A' c', H W A' c' → M W a v b A c A' c') : goal := h1 h2
set_option maxHeartbeats 8000000 in
theorem awake_any (w : World) : Calls Try.prog 9 #[] w fun e w' => e = .returned (.bool true) ∧ Below w.heap.size w w' := by
  have kc := fun (w : World) (C : Array Value) (n c : Nat) => Lib.run_convert_bytes_const (P := Try.prog) w 22 5 C n c Try.underlying22 Try.underlying5
  go_enter Try.func9, Try.ntmps9
  go_wp2_with fail
  refine (some_any w).mono ?_
  rintro e w1 ⟨rfl, hb1⟩
  have HB1 := Lib.hid hb1
  clear hb1
  go_wp2_with (first
    | ((with_reducible show wpList _ _ _ (⟨none, .store 35 (.tmp 1) _, _, _, _, _⟩ :: _) _ _); refine wpList_storeNewG (op := ⟨none, .store 35 (.tmp 1) _, _, _, _, _⟩) rfl 35 _ _ rfl (by rfl) (tuL SM) (by rfl) (by rw [tuL_len SM_ok]; rfl) (sizeTuL SM_ok) (tuL_one _) ?_; intro w2 hq2 hb2 hz2; clear hz2; have HT2 := Lib.hid hq2; have HW2 : Hid (w.heap.size ≤ w1.heap.size) := Lib.hid HB1.out.size; have HB2 := Lib.hid (HB1.out.trans (hb2.mono HB1.out.size)); clear hq2 hb2; generalize w1.heap.size = T1 at HT2 HW2 ⊢)
    | ((with_reducible show wpList _ _ _ (⟨some 11, _, _, _, _, _⟩ :: _) _ _); refine wpList_buildw (op := ⟨some 11, _, _, _, _, _⟩) 46 _ rfl (by rfl) _ (by kernel_rfl) (lkL Lk.zero (.slice none 0 0)).toArray built_lk0 ?_)
    | ((with_reducible show wpList _ _ _ (⟨some 12, _, _, _, _, _⟩ :: _) _ _); refine wpList_loadM (op := ⟨some 12, _, _, _, _, _⟩) 35 _ rfl (by rfl) T1 0 (by rfl) (tuL SM) (Blk_10.range HT2.out) _ Try.underlying35 rfl (sizeTuL SM_ok) ?_))
  have hrd := Rd.marked w2 [104, 105] (2, 3)
  obtain ⟨W2, hW2⟩ : ∃ W, w2.alloc (.cells #[.int .u8 104, .int .u8 105] 5 (2, 3)) = W := ⟨_, rfl⟩
  have HWB := Lib.hid (show Below w2.heap.size w2 W2 by rw [← hW2]; exact (Below.refl _ w2).alloc (Nat.le_refl _) _)
  have HR2 := Lib.hid (show Rd W2 W2.heap.size (some ⟨w2.heap.size, 0, none⟩) 2 [104, 105] by rw [← hW2]; exact hrd.more (by simp))
  have HWS := Lib.hid (show T1 < W2.heap.size by rw [← hW2]; have := HT2.out.lt; simp; omega)
  have hW2' := hW2
  rw [show (#[.int .u8 104, .int .u8 105] : Array Value) = #[.int .u8 104, .int .u8 105] from rfl] at hW2'
  rw [hW2']
  clear hrd hW2 hW2'
  refine (mk_y SM_ok sm_ok (by decide) (L := LA) rfl sm_len _ _ _ HR2.out).mono ?_
  rintro e w3 ⟨A3, c3, rfl, h1, h2, ho3, hb3⟩
  have HA3 := Lib.hid ho3
  have HC3 : Hid (56 ≤ c3) := Lib.hid h1
  have HM3 : Hid (c3 ≤ maxLen) := Lib.hid h2
  have HB3 := Lib.hid (HB2.out.trans (HWB.out.mono HB2.out.size |>.trans (hb3.mono (Nat.le_trans HB2.out.size HWB.out.size))))
  have HT3 := Lib.hid ((HT2.out.below HT2.out.lt HWB.out).below (HWS.out) hb3)
  clear ho3 h1 h2 hb3
  go_wp2_with (first
    | ((with_reducible show wpList _ _ _ (⟨some 16, _, _, _, _, _⟩ :: _) _ _); refine wpList_buildTo rfl 23 _ rfl (some 16) rfl (AD.b.map v8).toArray (by kernel_rfl) ?_)
    | ((with_reducible show wpList _ _ _ (⟨some 17, _, _, _, _, _⟩ :: _) _ _); refine wpList_buildTo rfl 25 _ rfl (some 17) rfl (adL AD).toArray (by kernel_rfl) ?_)
    | ((with_reducible show wpList _ _ _ (⟨none, .store 25 (.tmp 18) _, _, _, _, _⟩ :: _) _ _); refine wpList_storeAd rfl (.tmp 18) _ rfl T1 17 (by rfl) AD rfl (by rfl) 35 (tuL SM) (adL SM.s) (adL SM.d) (tuE SM) rfl rfl HT3.out rfl ?_; intro w4 hq4 hn4 hb4; have HA4 := Lib.hid (own_kept HA3.out (gb_of hn4 hb4) HWS.out); have HT4 := Lib.hid hq4; have HB4 := Lib.hid (HB3.out.trans (hb4.mono HW2.out)); clear hq4 hn4 hb4)
    | ((with_reducible show wpList _ _ _ (⟨none, .store 3 (.tmp 19) _, _, _, _, _⟩ :: _) _ _); refine wpList_storeI_10 rfl (.tmp 19) _ rfl T1 36 (by rfl) 8080 (by rfl) 35 _ HT4.out 80 (by rfl) ?_; intro w5 hq5 hn5 hb5; have HA5 := Lib.hid (own_kept HA4.out (gb_of hn5 hb5) HWS.out); have HT5 := Lib.hid (show Blk w5 35 T1 (tuL SD) from hq5); have HB5 := Lib.hid (HB4.out.trans (hb5.mono HW2.out)); clear hq5 hn5 hb5)
    | ((with_reducible show wpList _ _ _ (⟨some 20, _, _, _, _, _⟩ :: _) _ _); refine wpList_buildw (op := ⟨some 20, _, _, _, _, _⟩) 46 _ rfl (by rfl) _ (by kernel_rfl) (lkL Lk.zero (.slice none 0 0)).toArray built_lk0 ?_)
    | ((with_reducible show wpList _ _ _ (⟨some 21, _, _, _, _, _⟩ :: _) _ _); refine wpList_loadM (op := ⟨some 21, _, _, _, _, _⟩) 35 _ rfl (by rfl) T1 0 (by rfl) (tuL SD) (Blk_10.range HT5.out) _ Try.underlying35 rfl (sizeTuL SD_ok) ?_))
  have hrd := Rd.marked w5 [104, 105] (2, 3)
  obtain ⟨W5, hW5⟩ : ∃ W, w5.alloc (.cells #[.int .u8 104, .int .u8 105] 5 (2, 3)) = W := ⟨_, rfl⟩
  have HWB5 := Lib.hid (show Below w5.heap.size w5 W5 by rw [← hW5]; exact (Below.refl _ w5).alloc (Nat.le_refl _) _)
  have HR5 := Lib.hid (show Rd W5 W5.heap.size (some ⟨w5.heap.size, 0, none⟩) 2 [104, 105] by rw [← hW5]; exact hrd.more (by simp))
  rw [hW5]
  clear hrd hW5 kc
  refine (mk_y SD_ok sd_ok (by decide) (L := LB) rfl sd_len _ _ _ HR5.out).mono ?_
  rintro e w6 ⟨A6, c6, rfl, h1, h2, ho6, hb6⟩
  have HD6 := Lib.hid ho6
  have hb56 := HWB5.out.trans (hb6.mono HWB5.out.size)
  have HB6 := Lib.hid (HB5.out.trans (hb56.mono HB5.out.size))
  have HT6 := Lib.hid (HT5.out.below HT5.out.lt hb56)
  have HA6 := Lib.hid (HA5.out.below hb56)
  clear ho6 h1 h2 hb6 hb56
  have HAR := Lib.hid (HA6.out.rdN sm_len).2.2
  have HAL := Lib.hid sm_len
  have HBL := Lib.hid sd_len
  go_wp2_with fail
  apply cut_app (H := fun W Aa ca => Own8 W w6.heap.size (.slice Aa 56 ca) LB ∧ Below w6.heap.size w6 W)
  case h1 =>
    intro hc
    refine wp_region_held_drew (S := fun W => Below w6.heap.size w6 W) (by kernel_rfl) ((Below.refl _ _).drew) (fun hHeld => ?_)
    obtain ⟨X, hX⟩ : ∃ X, w6.drew = X := ⟨_, rfl⟩
    rw [hX] at hHeld ⊢
    clear hX
    refine tk 1 27 (.slice A3 56 c3) rfl hHeld ?_
    simp only [Act.put, sA, sZ, sS]
    refine tk 5 31 (.pointer (some ⟨T1, 17, none⟩)) rfl hHeld ?_
    simp only [Act.put, sA, sZ, sS]
    refine tkY 6 32 (.agg (adL AD).toArray) rfl (yieldsIf_load_mid (by rfl) 25 _ rfl T1 17 rfl (adL AD) _ (fun W hW => Blk_10.mid (HT6.out.below HT6.out.lt hW) (pre := adL SM.s) (post := tuE SD) rfl rfl) Try.underlying25 rfl (sizeAdL rfl)) hHeld ?_
    simp only [Act.put, sA, sZ, sS]
    refine wpAnyH_ready (rs := [0, 3]) (by kernel_rfl) (by simp) (AllReadyH.cons (o := ⟨some 26, _, _, _, _, _⟩) rfl (fun K hK => ?_) (AllReadyH.cons (o := ⟨some 29, _, _, _, _, _⟩) rfl (fun K hK => ?_) AllReadyH.nil))
    · go_simp
      have HE := Lib.hid (empty8 (base := w6.heap.size) X hHeld.size)
      have HX0 := Lib.hid (Nat.le_refl X.heap.size)
      have HH := Lib.hid (hHeld.alloc hHeld.size (.cells #[] 5))
      generalize X.alloc (.cells #[] 5) = z1 at HE HH ⊢
      generalize X.heap.size = g0 at HE HX0 ⊢
      refine hK.out _ _ (HH.out) (fun hHeld => ?_)
      clear hK K 
      refine wpAnyH_ready (rs := [2, 3]) (by kernel_rfl) (by simp) (AllReadyH.cons (o := ⟨some 28, _, _, _, _, _⟩) rfl (fun K hK => ?_) (AllReadyH.cons (o := ⟨some 29, _, _, _, _, _⟩) rfl (fun K hK => ?_) AllReadyH.nil))
      · refine step_append8 rfl (.tmp 26) (.tmp 27) rfl w6.heap.size _ [] (by rfl) HE.out _ A3 56 c3 LA (by rfl) (HAR.out.below HH.out |>.more HH.out.size) (by rw [List.length_nil]; decide) HH.out.size ?_
        intro v7 z2 ho7 hg7
        rw [List.nil_append] at ho7
        have HH7 := Lib.hid (HH.out.grown hg7 HH.out.size HE.out.lt)
        have HO := Lib.hid ho7
        clear HH
        have HH := HH7
        clear HH7
        refine hK.out _ _ (HH.out) (fun hHeld => ?_)
        clear hK K ho7 hg7 HE
        refine wpAnyH_ready (rs := [3]) (by kernel_rfl) (by simp) (AllReadyH.cons (o := ⟨some 29, _, _, _, _, _⟩) rfl (fun K hK => ?_) AllReadyH.nil)
        go_simp
        have HL := Lib.hid (show Row8 (z2.alloc (.cells #[.int .u8 1, .int .u8 2] 5)) z2.heap.size [1, 2] from heap_alloc_new z2 _)
        have HH3 := Lib.hid (hHeld.alloc hHeld.size (.cells #[.int .u8 1, .int .u8 2] 5))
        have HO0 := Lib.hid (HO.out.alloc (.cells #[.int .u8 1, .int .u8 2] 5))
        clear HO
        have HO := HO0
        clear HO0
        clear HH
        have HH := HH3
        clear HH3
        generalize z2.alloc (.cells #[.int .u8 1, .int .u8 2] 5) = z3 at HL HH HO ⊢
        generalize z2.heap.size = g8 at HL ⊢
        refine hK.out _ _ (HH.out) (fun hHeld => ?_)
        clear hK K 
        refine wpAnyH_ready (rs := [4]) (by kernel_rfl) (by simp) (AllReadyH.cons (o := ⟨some 30, _, _, _, _, _⟩) rfl (fun K hK => ?_) AllReadyH.nil)
        refine step_append8 rfl (.tmp 28) (.tmp 29) rfl w6.heap.size v7 LA (by rfl) HO.out _ (some ⟨g8, 0, none⟩) 2 2 [1, 2] (by rfl) (HL.out.rd HL.out.lt) (by rw [HAL.out]; decide) HH.out.size ?_
        intro v9 w9 ho9 hg9
        have HH9 := Lib.hid (HH.out.grown hg9 HH.out.size HO.out.lt)
        obtain ⟨A9, c9, rfl, h91, h92, hr9⟩ := ho9.formN (n := 58) (by rw [List.length_append, HAL.out]; rfl)
        have TO := Lib.hid (nto_any (a := AD) rfl (m := 8080) (len := 58) (by decide) h91 h92 w9 hr9)
        refine hK.out _ _ (HH9.out) (fun hHeld => ?_)
        clear hK K ho9 hg9 hr9 h91 h92
        refine wpAnyH_ready (rs := [7]) (by kernel_rfl) (by simp) (AllReadyH.cons (o := ⟨some 33, _, _, _, _, _⟩) rfl (fun K hK => ?_) AllReadyH.nil)
        go_simp
        refine TO.out.mono ?_
        rintro e wa ⟨_, hy, hba⟩
        obtain ⟨va, rfl, hoa⟩ := hy may_to
        rw [nat_to] at hoa
        obtain ⟨Aa, ca, rfl, _, _, _⟩ := hoa.formN HBL.out
        have HHa := Lib.hid (HH9.out.trans (hba.mono HH9.out.size))
        have HOa := Lib.hid (hoa.base_le HH9.out.size)
        refine hK.out _ _ (HHa.out) (fun hHeld => ?_)
        clear hK K hba hoa hy
        refine tk 8 25 (.tuple #[.slice Aa 56 ca, .int .i64 0]) rfl hHeld ?_
        simp only [Act.put, sA, sZ, sS]
        refine tk 9 34 (.slice Aa 56 ca) rfl hHeld ?_
        simp only [Act.put, sA, sZ, sS]
        refine tk 10 35 (.int .i64 0) rfl hHeld ?_
        simp only [Act.put, sA, sZ, sS]
        refine tk 11 4 (.slice Aa 56 ca) rfl hHeld ?_
        simp only [Act.put, sA, sZ, sS]
        refine tk 12 5 (.int .i64 0) rfl hHeld ?_
        simp only [Act.put, sA, sZ, sS]
        refine wpAnyH_done (by kernel_rfl) ?_ _
        exact hc wa g0 v7 g8 A9 c9 Aa ca ⟨HOa.out, HHa.out⟩
      · go_simp
        have HL := Lib.hid (show Row8 (z1.alloc (.cells #[.int .u8 1, .int .u8 2] 5)) z1.heap.size [1, 2] from heap_alloc_new z1 _)
        have HH3 := Lib.hid (hHeld.alloc hHeld.size (.cells #[.int .u8 1, .int .u8 2] 5))
        have HE0 := Lib.hid (HE.out.alloc (.cells #[.int .u8 1, .int .u8 2] 5))
        have HN0 := Lib.hid (fun (e : z1.heap.size = g0) => Nat.lt_irrefl _ (e ▸ (own_lt HE.out (HE.out.rdN rfl).2.2 g0 rfl)))
        clear HE
        have HE := HE0
        clear HE0
        clear HH
        have HH := HH3
        clear HH3
        generalize z1.alloc (.cells #[.int .u8 1, .int .u8 2] 5) = z2 at HL HH HE ⊢
        generalize z1.heap.size = g8 at HL HN0 ⊢
        refine hK.out _ _ (HH.out) (fun hHeld => ?_)
        clear hK K 
        refine wpAnyH_ready (rs := [2]) (by kernel_rfl) (by simp) (AllReadyH.cons (o := ⟨some 28, _, _, _, _, _⟩) rfl (fun K hK => ?_) AllReadyH.nil)
        refine step_append8 rfl (.tmp 26) (.tmp 27) rfl w6.heap.size _ [] (by rfl) HE.out _ A3 56 c3 LA (by rfl) (HAR.out.below HH.out |>.more HH.out.size) (by rw [List.length_nil]; decide) HH.out.size ?_
        intro v7 z3 ho7 hg7
        rw [List.nil_append] at ho7
        have HH7 := Lib.hid (HH.out.grown hg7 HH.out.size HE.out.lt)
        have HO := Lib.hid ho7
        have HL0 := Lib.hid (HL.out.stay hg7 HN0.out)
        clear HL
        have HL := HL0
        clear HL0
        clear HH
        have HH := HH7
        clear HH7
        refine hK.out _ _ (HH.out) (fun hHeld => ?_)
        clear hK K ho7 hg7 HE
        refine wpAnyH_ready (rs := [4]) (by kernel_rfl) (by simp) (AllReadyH.cons (o := ⟨some 30, _, _, _, _, _⟩) rfl (fun K hK => ?_) AllReadyH.nil)
        refine step_append8 rfl (.tmp 28) (.tmp 29) rfl w6.heap.size v7 LA (by rfl) HO.out _ (some ⟨g8, 0, none⟩) 2 2 [1, 2] (by rfl) (HL.out.rd HL.out.lt) (by rw [HAL.out]; decide) HH.out.size ?_
        intro v9 w9 ho9 hg9
        have HH9 := Lib.hid (HH.out.grown hg9 HH.out.size HO.out.lt)
        obtain ⟨A9, c9, rfl, h91, h92, hr9⟩ := ho9.formN (n := 58) (by rw [List.length_append, HAL.out]; rfl)
        have TO := Lib.hid (nto_any (a := AD) rfl (m := 8080) (len := 58) (by decide) h91 h92 w9 hr9)
        refine hK.out _ _ (HH9.out) (fun hHeld => ?_)
        clear hK K ho9 hg9 hr9 h91 h92
        refine wpAnyH_ready (rs := [7]) (by kernel_rfl) (by simp) (AllReadyH.cons (o := ⟨some 33, _, _, _, _, _⟩) rfl (fun K hK => ?_) AllReadyH.nil)
        go_simp
        refine TO.out.mono ?_
        rintro e wa ⟨_, hy, hba⟩
        obtain ⟨va, rfl, hoa⟩ := hy may_to
        rw [nat_to] at hoa
        obtain ⟨Aa, ca, rfl, _, _, _⟩ := hoa.formN HBL.out
        have HHa := Lib.hid (HH9.out.trans (hba.mono HH9.out.size))
        have HOa := Lib.hid (hoa.base_le HH9.out.size)
        refine hK.out _ _ (HHa.out) (fun hHeld => ?_)
        clear hK K hba hoa hy
        refine tk 8 25 (.tuple #[.slice Aa 56 ca, .int .i64 0]) rfl hHeld ?_
        simp only [Act.put, sA, sZ, sS]
        refine tk 9 34 (.slice Aa 56 ca) rfl hHeld ?_
        simp only [Act.put, sA, sZ, sS]
        refine tk 10 35 (.int .i64 0) rfl hHeld ?_
        simp only [Act.put, sA, sZ, sS]
        refine tk 11 4 (.slice Aa 56 ca) rfl hHeld ?_
        simp only [Act.put, sA, sZ, sS]
        refine tk 12 5 (.int .i64 0) rfl hHeld ?_
        simp only [Act.put, sA, sZ, sS]
        refine wpAnyH_done (by kernel_rfl) ?_ _
        exact hc wa g0 v7 g8 A9 c9 Aa ca ⟨HOa.out, HHa.out⟩
    · go_simp
      have HL := Lib.hid (show Row8 (X.alloc (.cells #[.int .u8 1, .int .u8 2] 5)) X.heap.size [1, 2] from heap_alloc_new X _)
      have HH3 := Lib.hid (hHeld.alloc hHeld.size (.cells #[.int .u8 1, .int .u8 2] 5))
      have HH := HH3
      clear HH3
      generalize X.alloc (.cells #[.int .u8 1, .int .u8 2] 5) = z1 at HL HH  ⊢
      generalize X.heap.size = g8 at HL ⊢
      refine hK.out _ _ (HH.out) (fun hHeld => ?_)
      clear hK K 
      refine wpAnyH_ready (rs := [0]) (by kernel_rfl) (by simp) (AllReadyH.cons (o := ⟨some 26, _, _, _, _, _⟩) rfl (fun K hK => ?_) AllReadyH.nil)
      go_simp
      have HE := Lib.hid (empty8 (base := w6.heap.size) z1 hHeld.size)
      have HX0 := Lib.hid (Nat.le_refl z1.heap.size)
      have HH := Lib.hid (hHeld.alloc hHeld.size (.cells #[] 5))
      have HL0 := Lib.hid (HL.out.alloc (.cells #[] 5))
      have HN0 := Lib.hid (Nat.ne_of_lt HL.out.lt)
      clear HL
      have HL := HL0
      clear HL0
      generalize z1.alloc (.cells #[] 5) = z2 at HE HH HL ⊢
      generalize z1.heap.size = g0 at HE HX0 HN0 ⊢
      refine hK.out _ _ (HH.out) (fun hHeld => ?_)
      clear hK K 
      refine wpAnyH_ready (rs := [2]) (by kernel_rfl) (by simp) (AllReadyH.cons (o := ⟨some 28, _, _, _, _, _⟩) rfl (fun K hK => ?_) AllReadyH.nil)
      refine step_append8 rfl (.tmp 26) (.tmp 27) rfl w6.heap.size _ [] (by rfl) HE.out _ A3 56 c3 LA (by rfl) (HAR.out.below HH.out |>.more HH.out.size) (by rw [List.length_nil]; decide) HH.out.size ?_
      intro v7 z3 ho7 hg7
      rw [List.nil_append] at ho7
      have HH7 := Lib.hid (HH.out.grown hg7 HH.out.size HE.out.lt)
      have HO := Lib.hid ho7
      have HL0 := Lib.hid (HL.out.stay hg7 HN0.out)
      clear HL
      have HL := HL0
      clear HL0
      clear HH
      have HH := HH7
      clear HH7
      refine hK.out _ _ (HH.out) (fun hHeld => ?_)
      clear hK K ho7 hg7 HE
      refine wpAnyH_ready (rs := [4]) (by kernel_rfl) (by simp) (AllReadyH.cons (o := ⟨some 30, _, _, _, _, _⟩) rfl (fun K hK => ?_) AllReadyH.nil)
      refine step_append8 rfl (.tmp 28) (.tmp 29) rfl w6.heap.size v7 LA (by rfl) HO.out _ (some ⟨g8, 0, none⟩) 2 2 [1, 2] (by rfl) (HL.out.rd HL.out.lt) (by rw [HAL.out]; decide) HH.out.size ?_
      intro v9 w9 ho9 hg9
      have HH9 := Lib.hid (HH.out.grown hg9 HH.out.size HO.out.lt)
      obtain ⟨A9, c9, rfl, h91, h92, hr9⟩ := ho9.formN (n := 58) (by rw [List.length_append, HAL.out]; rfl)
      have TO := Lib.hid (nto_any (a := AD) rfl (m := 8080) (len := 58) (by decide) h91 h92 w9 hr9)
      refine hK.out _ _ (HH9.out) (fun hHeld => ?_)
      clear hK K ho9 hg9 hr9 h91 h92
      refine wpAnyH_ready (rs := [7]) (by kernel_rfl) (by simp) (AllReadyH.cons (o := ⟨some 33, _, _, _, _, _⟩) rfl (fun K hK => ?_) AllReadyH.nil)
      go_simp
      refine TO.out.mono ?_
      rintro e wa ⟨_, hy, hba⟩
      obtain ⟨va, rfl, hoa⟩ := hy may_to
      rw [nat_to] at hoa
      obtain ⟨Aa, ca, rfl, _, _, _⟩ := hoa.formN HBL.out
      have HHa := Lib.hid (HH9.out.trans (hba.mono HH9.out.size))
      have HOa := Lib.hid (hoa.base_le HH9.out.size)
      refine hK.out _ _ (HHa.out) (fun hHeld => ?_)
      clear hK K hba hoa hy
      refine tk 8 25 (.tuple #[.slice Aa 56 ca, .int .i64 0]) rfl hHeld ?_
      simp only [Act.put, sA, sZ, sS]
      refine tk 9 34 (.slice Aa 56 ca) rfl hHeld ?_
      simp only [Act.put, sA, sZ, sS]
      refine tk 10 35 (.int .i64 0) rfl hHeld ?_
      simp only [Act.put, sA, sZ, sS]
      refine tk 11 4 (.slice Aa 56 ca) rfl hHeld ?_
      simp only [Act.put, sA, sZ, sS]
      refine tk 12 5 (.int .i64 0) rfl hHeld ?_
      simp only [Act.put, sA, sZ, sS]
      refine wpAnyH_done (by kernel_rfl) ?_ _
      exact hc wa g0 v7 g8 A9 c9 Aa ca ⟨HOa.out, HHa.out⟩
  case h2 =>
    intro wa g0 v7 g8 A9 c9 Aa ca hcc
    obtain ⟨hoa, hha⟩ := hcc
    have HOa := Lib.hid hoa
    have HHa := Lib.hid hha
    clear hoa hha
    have HBa := Lib.hid (HB6.out.trans (HHa.out.mono HB6.out.size))
    have HTa := Lib.hid (HT6.out.below HT6.out.lt HHa.out)
    have HAa := Lib.hid (HA6.out.below HHa.out)
    have HDa := Lib.hid (HD6.out.below HHa.out)
    have FR := Lib.hid (nfrom_any (a := SM.s) rfl (m := 1000) (len := 56) (cap := c3) (by decide) HC3.out HM3.out wa (HAa.out.rdN HAL.out).2.2)
    go_wp2_with (((with_reducible show wpList _ _ _ (⟨some 39, _, _, _, _, _⟩ :: _) _ _); refine wpList_loadM (op := ⟨some 39, _, _, _, _, _⟩) 25 _ rfl (by rfl) T1 0 (by rfl) (adL SM.s) (Blk_10.mid HTa.out (pre := []) (post := adL AD ++ tuE SD) rfl rfl) _ Try.underlying25 rfl (sizeAdL rfl) ?_))
    refine FR.out.mono ?_
    rintro e wb ⟨_, hy, hbb⟩
    obtain ⟨vb, rfl, hob⟩ := hy may_from
    rw [nat_from] at hob
    obtain ⟨Ab, cb, rfl, _, _, _⟩ := hob.formN HAL.out
    have HOb := Lib.hid hob
    have HBb := Lib.hid (HBa.out.trans (hbb.mono HBa.out.size))
    have HTb := Lib.hid (HTa.out.below HTa.out.lt hbb)
    have HAb := Lib.hid (HAa.out.below hbb)
    have HDb := Lib.hid (HDa.out.below hbb)
    have HCb := Lib.hid (HOa.out.below hbb)
    have TN := Lib.hid (nto_any (a := AD) rfl (m := 65536) (len := 56) (cap := c3) (by decide) HC3.out HM3.out wb (HAb.out.rdN HAL.out).2.2)
    clear hy hbb hob
    go_wp2_with (((with_reducible show wpList _ _ _ (⟨some 46, _, _, _, _, _⟩ :: _) _ _); refine wpList_loadM (op := ⟨some 46, _, _, _, _, _⟩) 25 _ rfl (by rfl) T1 17 (by rfl) (adL AD) (Blk_10.mid HTb.out (pre := adL SM.s) (post := tuE SD) rfl rfl) _ Try.underlying25 rfl (sizeAdL rfl) ?_))
    refine TN.out.mono ?_
    rintro e wc ⟨hn, _, hbc⟩
    obtain rfl := hn may_no
    have HBc := Lib.hid (HBb.out.trans (hbc.mono HBb.out.size))
    have S1 := Lib.hid (same_any wc c6 ca ((HDb.out.below hbc).rdN HBL.out).2.2 ((HCb.out.below hbc).rdN HBL.out).2.2)
    have S2 := Lib.hid (same_any wc cb c3 ((HOb.out.below hbc).rdN HAL.out).2.2 ((HAb.out.below hbc).rdN HAL.out).2.2)
    clear hn hbc
    go_wp2_with fail
    refine S1.out.mono ?_
    rintro e w' ⟨rfl, rfl⟩
    go_wp2_with fail
    refine S2.out.mono ?_
    rintro e w' ⟨rfl, rfl⟩
    go_wp2_with fail
    go_ret
    exact ⟨rfl, HBc.out⟩
end Go.Proofs.Ytkmcopenflakkaa
