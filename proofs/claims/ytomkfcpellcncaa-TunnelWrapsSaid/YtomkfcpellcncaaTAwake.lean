/-
  The statements' 'awake', which answers true.
-/
import Derived.Test.YtomkfcpellcncaaTMade
import Derived.Test.YtomkfcpellcncaaTUnw
import Derived.Deep.DeepCutAuto
import Derived.Lib.SlBytesConst
namespace Go.Proofs.Ytomkfcpellcncaa
set_option maxRecDepth 100000
open Go.RowKit Go.Lib

theorem own_kept {w w' : World} {base g : Nat} {v : Value} {xs : List UInt8} (h : Own8 w base v xs) (hg : w.grownBy w' (some g)) (hlt : g < base) : Own8 w' base v xs :=
  h.kept hg (own_off h hlt)
theorem Row8.stay {w w' : World} {g k : Nat} {xs : List UInt8} (h : Row8 w k xs) (hg : w.grownBy w' (some g)) (hne : k ≠ g) : Row8 w' k xs := (hg.block k h.lt (fun e => hne (by cases e; rfl))).trans h
theorem cut_app {goal : Prop} {H : World → Option Addr → Nat → Prop} {M : World → Nat → Value → Nat → Option Addr → Nat → Option Addr → Nat → Prop} (h1 : (∀ W a v b A c A' c', H W A' c' → M W a v b A c A' c') → goal) (h2 : ∀ W a v b A c A' c', H W A' c' → M W a v b A c A' c') : goal := h1 h2
set_option maxHeartbeats 8000000 in
theorem awake_any (w : World) : Calls Try.prog 9 #[] w fun e w' => e = .returned (.bool true) ∧ Below w.heap.size w w' := by
  have kc := fun (w : World) (C : Array Value) (n c : Nat) => Lib.run_convert_bytes_const (P := Try.prog) w 22 5 C n c Try.underlying22 Try.underlying5
  go_enter Try.func9, Try.ntmps9
  go_upto_region 3 with (first
    | ((with_reducible show wpList _ _ _ (⟨some 14, _, _, _, _, _⟩ :: _) _ _); refine wpList_buildw (op := ⟨some 14, _, _, _, _, _⟩) 23 _ rfl (by rfl) _ (by kernel_rfl) (AA.b.map v8).toArray (by kernel_rfl) ?_)
    | ((with_reducible show wpList _ _ _ (⟨some 15, _, _, _, _, _⟩ :: _) _ _); refine wpList_buildw (op := ⟨some 15, _, _, _, _, _⟩) 25 _ rfl (by rfl) _ (by kernel_rfl) (adL AA).toArray (by kernel_rfl) ?_)
    | ((with_reducible show wpList _ _ _ (⟨none, .store 25 (.tmp 1) _, _, _, _, _⟩ :: _) _ _); refine wpList_storeNewG (op := ⟨none, .store 25 (.tmp 1) _, _, _, _, _⟩) rfl 25 _ _ rfl (by rfl) (adL AA) (by rfl) (by rfl) (sizeAdL rfl) (adL_one _) ?_; intro w1 hq_ hb_ hz_; have HT1 := Lib.hid hq_; have HB1 := Lib.hid hb_; clear hq_ hb_ hz_)
    | ((with_reducible show wpList _ _ _ (⟨some 16, _, _, _, _, _⟩ :: _) _ _); refine wpList_buildw (op := ⟨some 16, _, _, _, _, _⟩) 25 _ rfl (by rfl) _ (by kernel_rfl) (adL S6).toArray (by kernel_rfl) ?_)
    | ((with_reducible show wpList _ _ _ (⟨none, .store 25 (.tmp 2) _, _, _, _, _⟩ :: _) _ _); refine wpList_storeNewG (op := ⟨none, .store 25 (.tmp 2) _, _, _, _, _⟩) rfl 25 _ _ rfl (by rfl) (adL S6) (by rfl) (by rfl) (sizeAdL rfl) (adL_one _) ?_; intro w2 hq_ hb_ hz_; have HS2 := Lib.hid hq_; have HB2 := Lib.hid (HB1.out.trans (hb_.mono HB1.out.size)); have HT2 := Lib.hid (HT1.out.below HT1.out.lt hb_); have HTS := Lib.hid HT1.out.lt; clear hq_ hb_ hz_; generalize w1.heap.size = T2 at HS2 HTS ⊢))
  go_wp2_with (first
    | ((with_reducible show wpList _ _ _ (⟨some 17, _, _, _, _, _⟩ :: _) _ _); refine wpList_buildw (op := ⟨some 17, _, _, _, _, _⟩) 41 _ rfl (by rfl) _ (by kernel_rfl) (lkL Lk.zero (.slice none 0 0)).toArray built_lk0 ?_)
    | ((with_reducible show wpList _ _ _ (⟨some 18, _, _, _, _, _⟩ :: _) _ _); refine wpList_loadM (op := ⟨some 18, _, _, _, _, _⟩) 25 _ rfl (by rfl) w.heap.size 0 (by rfl) (adL AA) (Blk_10.range HT2.out) _ Try.underlying25 rfl (sizeAdL rfl) ?_)
    | ((with_reducible show wpList _ _ _ (⟨some 19, _, _, _, _, _⟩ :: _) _ _); refine wpList_loadM (op := ⟨some 19, _, _, _, _, _⟩) 25 _ rfl (by rfl) w.heap.size 0 (by rfl) (adL AA) (Blk_10.range HT2.out) _ Try.underlying25 rfl (sizeAdL rfl) ?_)
    | ((with_reducible show wpList _ _ _ (⟨some 20, _, _, _, _, _⟩ :: _) _ _); refine wpList_buildw (op := ⟨some 20, _, _, _, _, _⟩) 51 _ rfl (by rfl) _ (by kernel_rfl) (tuL SA).toArray (by kernel_rfl) ?_))
  have hrd := Rd.marked w2 LD6 (6, 7)
  obtain ⟨W2, hW2⟩ : ∃ W, w2.alloc (.cells #[.int .u8 49, .int .u8 50, .int .u8 51, .int .u8 52, .int .u8 53, .int .u8 54] 5 (6, 7)) = W := ⟨_, rfl⟩
  have HWB := Lib.hid (show Below w2.heap.size w2 W2 by rw [← hW2]; exact (Below.refl _ w2).alloc (Nat.le_refl _) _)
  have HR2 := Lib.hid (show Rd W2 W2.heap.size (some ⟨w2.heap.size, 0, none⟩) 6 LD6 by rw [← hW2]; exact hrd.more (by simp))
  rw [hW2]
  clear hrd hW2 kc
  refine (rmake_any zero_six (A := none) (n := 0) (cap := 0) (by omega) SA_ok sa_ok (load := LD6) (by decide) _ (TagsAt.nil_ none) HR2.out).mono ?_
  rintro e w3 ⟨v3, rfl, ho3, hb3⟩
  obtain ⟨A3, c3, rfl, h1, h2, _⟩ := ho3.formN la_len
  have hb23 := HWB.out.trans (hb3.mono HWB.out.size)
  have HA3 := Lib.hid (show Own8 w3 W2.heap.size (.slice A3 60 c3) LA from ho3)
  have HC3 : Hid (60 ≤ c3) := Lib.hid h1
  have HM3 : Hid (c3 ≤ maxLen) := Lib.hid h2
  have HB3 := Lib.hid (HB2.out.trans (hb23.mono HB2.out.size))
  have HT3 := Lib.hid (HT2.out.below HT2.out.lt hb23)
  have HS3 := Lib.hid (HS2.out.below HS2.out.lt hb23)
  have HAR := Lib.hid (HA3.out.rdN la_len).2.2
  have HAL := Lib.hid la_len
  clear ho3 h1 h2 hb3 hb23 HT2 HS2
  go_upto_region 4 with (fail)
  apply cut_app (H := fun W Aa ca => Own8 W w3.heap.size (.slice Aa 80 ca) LC ∧ Below w3.heap.size w3 W)
  case h1 =>
    intro hc
    refine wp_region_held_drew (S := fun W => Below w3.heap.size w3 W) (by kernel_rfl) ((Below.refl _ _).drew) (fun hHeld => ?_)
    obtain ⟨X, hX⟩ : ∃ X, w3.drew = X := ⟨_, rfl⟩
    rw [hX] at hHeld ⊢
    clear hX
    refine tk 1 26 (.slice A3 60 c3) rfl hHeld ?_
    simp only [Act.put, sA, sZ, sS]
    refine tkY 5 30 (.agg (adL AA).toArray) rfl (yieldsIf_load_mid (by rfl) 25 _ rfl w.heap.size 0 rfl (adL AA) _ (fun W hW => Blk_10.range (HT3.out.below HT3.out.lt hW)) Try.underlying25 rfl (sizeAdL rfl)) hHeld ?_
    simp only [Act.put, sA, sZ, sS]
    refine tkY 6 31 (.agg (adL AA).toArray) rfl (yieldsIf_load_mid (by rfl) 25 _ rfl w.heap.size 0 rfl (adL AA) _ (fun W hW => Blk_10.range (HT3.out.below HT3.out.lt hW)) Try.underlying25 rfl (sizeAdL rfl)) hHeld ?_
    simp only [Act.put, sA, sZ, sS]
    refine wpAnyH_ready (rs := [0, 3]) (by kernel_rfl) (by simp) (AllReadyH.cons (o := ⟨some 25, _, _, _, _, _⟩) rfl (fun K hK => ?_) (AllReadyH.cons (o := ⟨some 28, _, _, _, _, _⟩) rfl (fun K hK => ?_) AllReadyH.nil))
    · go_simp
      have HE := Lib.hid (empty8 (base := w3.heap.size) X hHeld.size)
      have HX0 := Lib.hid (Nat.le_refl X.heap.size)
      have HH := Lib.hid (hHeld.alloc hHeld.size (.cells #[] 5))
      generalize X.alloc (.cells #[] 5) = z1 at HE HH ⊢
      generalize X.heap.size = g0 at HE HX0 ⊢
      refine hK.out _ _ (HH.out) (fun hHeld => ?_)
      clear hK K 
      refine wpAnyH_ready (rs := [2, 3]) (by kernel_rfl) (by simp) (AllReadyH.cons (o := ⟨some 27, _, _, _, _, _⟩) rfl (fun K hK => ?_) (AllReadyH.cons (o := ⟨some 28, _, _, _, _, _⟩) rfl (fun K hK => ?_) AllReadyH.nil))
      · refine step_append8 rfl (.tmp 25) (.tmp 26) rfl w3.heap.size _ [] (by rfl) HE.out _ A3 60 c3 LA (by rfl) (HAR.out.below HH.out |>.more HH.out.size) (by rw [List.length_nil]; decide) HH.out.size ?_
        intro v7 z2 ho7 hg7
        rw [List.nil_append] at ho7
        have HH7 := Lib.hid (HH.out.grown hg7 HH.out.size HE.out.lt)
        have HO := Lib.hid ho7
        clear HH
        have HH := HH7
        clear HH7
        refine hK.out _ _ (HH.out) (fun hHeld => ?_)
        clear hK K ho7 hg7 HE
        refine wpAnyH_ready (rs := [3]) (by kernel_rfl) (by simp) (AllReadyH.cons (o := ⟨some 28, _, _, _, _, _⟩) rfl (fun K hK => ?_) AllReadyH.nil)
        go_simp
        have HL := Lib.hid (show Row8 (z2.alloc (.cells #[.int .u8 9] 5)) z2.heap.size [9] from heap_alloc_new z2 _)
        have HH3 := Lib.hid (hHeld.alloc hHeld.size (.cells #[.int .u8 9] 5))
        have HO0 := Lib.hid (HO.out.alloc (.cells #[.int .u8 9] 5))
        clear HO
        have HO := HO0
        clear HO0
        clear HH
        have HH := HH3
        clear HH3
        generalize z2.alloc (.cells #[.int .u8 9] 5) = z3 at HL HH HO ⊢
        generalize z2.heap.size = g8 at HL ⊢
        refine hK.out _ _ (HH.out) (fun hHeld => ?_)
        clear hK K 
        refine wpAnyH_ready (rs := [4]) (by kernel_rfl) (by simp) (AllReadyH.cons (o := ⟨some 29, _, _, _, _, _⟩) rfl (fun K hK => ?_) AllReadyH.nil)
        refine step_append8 rfl (.tmp 27) (.tmp 28) rfl w3.heap.size v7 LA (by rfl) HO.out _ (some ⟨g8, 0, none⟩) 1 1 [9] (by rfl) (HL.out.rd HL.out.lt) (by rw [HAL.out]; decide) HH.out.size ?_
        intro v9 w9 ho9 hg9
        have HH9 := Lib.hid (HH.out.grown hg9 HH.out.size HO.out.lt)
        obtain ⟨A9, c9, rfl, h91, h92, hr9⟩ := ho9.formN (n := 61) (by rw [List.length_append, HAL.out]; rfl)
        have TO := Lib.hid (twrap_any A9 61 c9 (LA ++ [9]) (s := AA) (d := AA) rfl rfl (by decide) h91 h92 w9 hr9)
        refine hK.out _ _ (HH9.out) (fun hHeld => ?_)
        clear hK K ho9 hg9 hr9 h91 h92
        refine wpAnyH_ready (rs := [7]) (by kernel_rfl) (by simp) (AllReadyH.cons (o := ⟨some 32, _, _, _, _, _⟩) rfl (fun K hK => ?_) AllReadyH.nil)
        go_simp
        refine TO.out.mono ?_
        rintro e wa ⟨hy, _, hba⟩
        obtain ⟨va, rfl, hoa⟩ := hy wr1
        obtain ⟨Aa, ca, rfl, _, _, _⟩ := hoa.formN lc_len
        have HHa := Lib.hid (HH9.out.trans (hba.mono HH9.out.size))
        have HOa := Lib.hid (hoa.base_le HH9.out.size)
        refine hK.out _ _ (HHa.out) (fun hHeld => ?_)
        clear hK K hba hoa hy
        refine tk 8 24 (.tuple #[.slice Aa 80 ca, .int .i64 0]) rfl hHeld ?_
        simp only [Act.put, sA, sZ, sS]
        refine tk 9 33 (.slice Aa 80 ca) rfl hHeld ?_
        simp only [Act.put, sA, sZ, sS]
        refine tk 10 34 (.int .i64 0) rfl hHeld ?_
        simp only [Act.put, sA, sZ, sS]
        refine tk 11 4 (.slice Aa 80 ca) rfl hHeld ?_
        simp only [Act.put, sA, sZ, sS]
        refine tk 12 5 (.int .i64 0) rfl hHeld ?_
        simp only [Act.put, sA, sZ, sS]
        refine wpAnyH_done (by kernel_rfl) ?_ _
        exact hc wa g0 v7 g8 A9 c9 Aa ca ⟨HOa.out, HHa.out⟩
      · go_simp
        have HL := Lib.hid (show Row8 (z1.alloc (.cells #[.int .u8 9] 5)) z1.heap.size [9] from heap_alloc_new z1 _)
        have HH3 := Lib.hid (hHeld.alloc hHeld.size (.cells #[.int .u8 9] 5))
        have HE0 := Lib.hid (HE.out.alloc (.cells #[.int .u8 9] 5))
        have HN0 := Lib.hid (fun (e : z1.heap.size = g0) => Nat.lt_irrefl _ (e ▸ (own_lt HE.out (HE.out.rdN rfl).2.2 g0 rfl)))
        clear HE
        have HE := HE0
        clear HE0
        clear HH
        have HH := HH3
        clear HH3
        generalize z1.alloc (.cells #[.int .u8 9] 5) = z2 at HL HH HE ⊢
        generalize z1.heap.size = g8 at HL HN0 ⊢
        refine hK.out _ _ (HH.out) (fun hHeld => ?_)
        clear hK K 
        refine wpAnyH_ready (rs := [2]) (by kernel_rfl) (by simp) (AllReadyH.cons (o := ⟨some 27, _, _, _, _, _⟩) rfl (fun K hK => ?_) AllReadyH.nil)
        refine step_append8 rfl (.tmp 25) (.tmp 26) rfl w3.heap.size _ [] (by rfl) HE.out _ A3 60 c3 LA (by rfl) (HAR.out.below HH.out |>.more HH.out.size) (by rw [List.length_nil]; decide) HH.out.size ?_
        intro v7 z3 ho7 hg7
        rw [List.nil_append] at ho7
        have HH7 := Lib.hid (HH.out.grown hg7 HH.out.size HE.out.lt)
        have HO := Lib.hid ho7
        have HL0 := Lib.hid (HL.out.stay hg7 HN0.out)
        clear HL
        have HL := HL0
        clear HL0
        clear HH
        have HH := HH7
        clear HH7
        refine hK.out _ _ (HH.out) (fun hHeld => ?_)
        clear hK K ho7 hg7 HE
        refine wpAnyH_ready (rs := [4]) (by kernel_rfl) (by simp) (AllReadyH.cons (o := ⟨some 29, _, _, _, _, _⟩) rfl (fun K hK => ?_) AllReadyH.nil)
        refine step_append8 rfl (.tmp 27) (.tmp 28) rfl w3.heap.size v7 LA (by rfl) HO.out _ (some ⟨g8, 0, none⟩) 1 1 [9] (by rfl) (HL.out.rd HL.out.lt) (by rw [HAL.out]; decide) HH.out.size ?_
        intro v9 w9 ho9 hg9
        have HH9 := Lib.hid (HH.out.grown hg9 HH.out.size HO.out.lt)
        obtain ⟨A9, c9, rfl, h91, h92, hr9⟩ := ho9.formN (n := 61) (by rw [List.length_append, HAL.out]; rfl)
        have TO := Lib.hid (twrap_any A9 61 c9 (LA ++ [9]) (s := AA) (d := AA) rfl rfl (by decide) h91 h92 w9 hr9)
        refine hK.out _ _ (HH9.out) (fun hHeld => ?_)
        clear hK K ho9 hg9 hr9 h91 h92
        refine wpAnyH_ready (rs := [7]) (by kernel_rfl) (by simp) (AllReadyH.cons (o := ⟨some 32, _, _, _, _, _⟩) rfl (fun K hK => ?_) AllReadyH.nil)
        go_simp
        refine TO.out.mono ?_
        rintro e wa ⟨hy, _, hba⟩
        obtain ⟨va, rfl, hoa⟩ := hy wr1
        obtain ⟨Aa, ca, rfl, _, _, _⟩ := hoa.formN lc_len
        have HHa := Lib.hid (HH9.out.trans (hba.mono HH9.out.size))
        have HOa := Lib.hid (hoa.base_le HH9.out.size)
        refine hK.out _ _ (HHa.out) (fun hHeld => ?_)
        clear hK K hba hoa hy
        refine tk 8 24 (.tuple #[.slice Aa 80 ca, .int .i64 0]) rfl hHeld ?_
        simp only [Act.put, sA, sZ, sS]
        refine tk 9 33 (.slice Aa 80 ca) rfl hHeld ?_
        simp only [Act.put, sA, sZ, sS]
        refine tk 10 34 (.int .i64 0) rfl hHeld ?_
        simp only [Act.put, sA, sZ, sS]
        refine tk 11 4 (.slice Aa 80 ca) rfl hHeld ?_
        simp only [Act.put, sA, sZ, sS]
        refine tk 12 5 (.int .i64 0) rfl hHeld ?_
        simp only [Act.put, sA, sZ, sS]
        refine wpAnyH_done (by kernel_rfl) ?_ _
        exact hc wa g0 v7 g8 A9 c9 Aa ca ⟨HOa.out, HHa.out⟩
    · go_simp
      have HL := Lib.hid (show Row8 (X.alloc (.cells #[.int .u8 9] 5)) X.heap.size [9] from heap_alloc_new X _)
      have HH3 := Lib.hid (hHeld.alloc hHeld.size (.cells #[.int .u8 9] 5))
      have HH := HH3
      clear HH3
      generalize X.alloc (.cells #[.int .u8 9] 5) = z1 at HL HH  ⊢
      generalize X.heap.size = g8 at HL ⊢
      refine hK.out _ _ (HH.out) (fun hHeld => ?_)
      clear hK K 
      refine wpAnyH_ready (rs := [0]) (by kernel_rfl) (by simp) (AllReadyH.cons (o := ⟨some 25, _, _, _, _, _⟩) rfl (fun K hK => ?_) AllReadyH.nil)
      go_simp
      have HE := Lib.hid (empty8 (base := w3.heap.size) z1 hHeld.size)
      have HX0 := Lib.hid (Nat.le_refl z1.heap.size)
      have HH := Lib.hid (hHeld.alloc hHeld.size (.cells #[] 5))
      have HL0 := Lib.hid (HL.out.alloc (.cells #[] 5))
      have HN0 := Lib.hid (Nat.ne_of_lt HL.out.lt)
      clear HL
      have HL := HL0
      clear HL0
      generalize z1.alloc (.cells #[] 5) = z2 at HE HH HL ⊢
      generalize z1.heap.size = g0 at HE HX0 HN0 ⊢
      refine hK.out _ _ (HH.out) (fun hHeld => ?_)
      clear hK K 
      refine wpAnyH_ready (rs := [2]) (by kernel_rfl) (by simp) (AllReadyH.cons (o := ⟨some 27, _, _, _, _, _⟩) rfl (fun K hK => ?_) AllReadyH.nil)
      refine step_append8 rfl (.tmp 25) (.tmp 26) rfl w3.heap.size _ [] (by rfl) HE.out _ A3 60 c3 LA (by rfl) (HAR.out.below HH.out |>.more HH.out.size) (by rw [List.length_nil]; decide) HH.out.size ?_
      intro v7 z3 ho7 hg7
      rw [List.nil_append] at ho7
      have HH7 := Lib.hid (HH.out.grown hg7 HH.out.size HE.out.lt)
      have HO := Lib.hid ho7
      have HL0 := Lib.hid (HL.out.stay hg7 HN0.out)
      clear HL
      have HL := HL0
      clear HL0
      clear HH
      have HH := HH7
      clear HH7
      refine hK.out _ _ (HH.out) (fun hHeld => ?_)
      clear hK K ho7 hg7 HE
      refine wpAnyH_ready (rs := [4]) (by kernel_rfl) (by simp) (AllReadyH.cons (o := ⟨some 29, _, _, _, _, _⟩) rfl (fun K hK => ?_) AllReadyH.nil)
      refine step_append8 rfl (.tmp 27) (.tmp 28) rfl w3.heap.size v7 LA (by rfl) HO.out _ (some ⟨g8, 0, none⟩) 1 1 [9] (by rfl) (HL.out.rd HL.out.lt) (by rw [HAL.out]; decide) HH.out.size ?_
      intro v9 w9 ho9 hg9
      have HH9 := Lib.hid (HH.out.grown hg9 HH.out.size HO.out.lt)
      obtain ⟨A9, c9, rfl, h91, h92, hr9⟩ := ho9.formN (n := 61) (by rw [List.length_append, HAL.out]; rfl)
      have TO := Lib.hid (twrap_any A9 61 c9 (LA ++ [9]) (s := AA) (d := AA) rfl rfl (by decide) h91 h92 w9 hr9)
      refine hK.out _ _ (HH9.out) (fun hHeld => ?_)
      clear hK K ho9 hg9 hr9 h91 h92
      refine wpAnyH_ready (rs := [7]) (by kernel_rfl) (by simp) (AllReadyH.cons (o := ⟨some 32, _, _, _, _, _⟩) rfl (fun K hK => ?_) AllReadyH.nil)
      go_simp
      refine TO.out.mono ?_
      rintro e wa ⟨hy, _, hba⟩
      obtain ⟨va, rfl, hoa⟩ := hy wr1
      obtain ⟨Aa, ca, rfl, _, _, _⟩ := hoa.formN lc_len
      have HHa := Lib.hid (HH9.out.trans (hba.mono HH9.out.size))
      have HOa := Lib.hid (hoa.base_le HH9.out.size)
      refine hK.out _ _ (HHa.out) (fun hHeld => ?_)
      clear hK K hba hoa hy
      refine tk 8 24 (.tuple #[.slice Aa 80 ca, .int .i64 0]) rfl hHeld ?_
      simp only [Act.put, sA, sZ, sS]
      refine tk 9 33 (.slice Aa 80 ca) rfl hHeld ?_
      simp only [Act.put, sA, sZ, sS]
      refine tk 10 34 (.int .i64 0) rfl hHeld ?_
      simp only [Act.put, sA, sZ, sS]
      refine tk 11 4 (.slice Aa 80 ca) rfl hHeld ?_
      simp only [Act.put, sA, sZ, sS]
      refine tk 12 5 (.int .i64 0) rfl hHeld ?_
      simp only [Act.put, sA, sZ, sS]
      refine wpAnyH_done (by kernel_rfl) ?_ _
      exact hc wa g0 v7 g8 A9 c9 Aa ca ⟨HOa.out, HHa.out⟩
  case h2 =>
    intro wa g0 v7 g8 A9 c9 Aa ca hcc
    obtain ⟨hoa, hha⟩ := hcc
    have HOa := Lib.hid hoa
    have HHa := Lib.hid hha
    clear hoa hha
    have HBa := Lib.hid (HB3.out.trans (HHa.out.mono HB3.out.size))
    have HTa := Lib.hid (HT3.out.below HT3.out.lt HHa.out)
    have HSa := Lib.hid (HS3.out.below HS3.out.lt HHa.out)
    have HAa := Lib.hid (HA3.out.below HHa.out)
    have hoc := HOa.out.rdN lc_len
    have UW := Lib.hid (tunw_any Aa 80 ca LC (by decide) hoc.1 hoc.2.1 wa hoc.2.2)
    clear hoc
    go_wp2_with fail
    refine UW.out.mono ?_
    rintro e wb ⟨hy, _, hbb⟩
    obtain ⟨vb, rfl, hob⟩ := hy lc_back.1
    rw [lc_back.2] at hob
    obtain ⟨Ab, cb, rfl, _, _, _⟩ := hob.formN HAL.out
    have HOb := Lib.hid hob
    have HBb := Lib.hid (HBa.out.trans (hbb.mono HBa.out.size))
    have HTb := Lib.hid (HTa.out.below HTa.out.lt hbb)
    have HSb := Lib.hid (HSa.out.below HSa.out.lt hbb)
    have HAb := Lib.hid (HAa.out.below hbb)
    have W2' := Lib.hid (twrap_any A3 60 c3 LA (s := S6) (d := S6) rfl rfl (by decide) HC3.out HM3.out wb (HAb.out.rdN HAL.out).2.2)
    clear hy hbb hob
    go_wp2_with (first
      | ((with_reducible show wpList _ _ _ (⟨some 42, _, _, _, _, _⟩ :: _) _ _); refine wpList_loadM (op := ⟨some 42, _, _, _, _, _⟩) 25 _ rfl (by rfl) T2 0 (by rfl) (adL S6) (Blk_10.range HSb.out) _ Try.underlying25 rfl (sizeAdL rfl) ?_)
      | ((with_reducible show wpList _ _ _ (⟨some 43, _, _, _, _, _⟩ :: _) _ _); refine wpList_loadM (op := ⟨some 43, _, _, _, _, _⟩) 25 _ rfl (by rfl) T2 0 (by rfl) (adL S6) (Blk_10.range HSb.out) _ Try.underlying25 rfl (sizeAdL rfl) ?_))
    refine W2'.out.mono ?_
    rintro e wc ⟨hy, _, hbc⟩
    obtain ⟨vc, rfl, hoc⟩ := hy wr2
    obtain ⟨Ac, cc, rfl, _, _, _⟩ := hoc.formN lx_len
    have HBc := Lib.hid (HBb.out.trans (hbc.mono HBb.out.size))
    have HTc := Lib.hid (HTb.out.below HTb.out.lt hbc)
    have HSc := Lib.hid (HSb.out.below HSb.out.lt hbc)
    have HAc := Lib.hid (HAb.out.below hbc)
    have HOc := Lib.hid (HOb.out.below hbc)
    have W3' := Lib.hid (twrap_any A3 60 c3 LA (s := AA) (d := S6) rfl rfl (by decide) HC3.out HM3.out wc (HAc.out.rdN HAL.out).2.2)
    clear hy hbc hoc
    go_wp2_with (first
      | ((with_reducible show wpList _ _ _ (⟨some 49, _, _, _, _, _⟩ :: _) _ _); refine wpList_loadM (op := ⟨some 49, _, _, _, _, _⟩) 25 _ rfl (by rfl) w.heap.size 0 (by rfl) (adL AA) (Blk_10.range HTc.out) _ Try.underlying25 rfl (sizeAdL rfl) ?_)
      | ((with_reducible show wpList _ _ _ (⟨some 50, _, _, _, _, _⟩ :: _) _ _); refine wpList_loadM (op := ⟨some 50, _, _, _, _, _⟩) 25 _ rfl (by rfl) T2 0 (by rfl) (adL S6) (Blk_10.range HSc.out) _ Try.underlying25 rfl (sizeAdL rfl) ?_))
    refine W3'.out.mono ?_
    rintro e wd ⟨_, hn, hbd⟩
    have hn' := hn (by rw [wr3]; decide)
    rw [wr3] at hn'
    subst hn'
    have HBd := Lib.hid (HBc.out.trans (hbd.mono HBc.out.size))
    have HAd := Lib.hid (HAc.out.below hbd)
    have HOd := Lib.hid (HOc.out.below hbd)
    have UW2 := Lib.hid (tunw_any A3 60 c3 LA (by decide) HC3.out HM3.out wd (HAd.out.rdN HAL.out).2.2)
    clear hn hbd
    go_wp2_with fail
    refine UW2.out.mono ?_
    rintro e we ⟨_, hn, hbe⟩
    obtain rfl := hn la_un
    have HBe := Lib.hid (HBd.out.trans (hbe.mono HBd.out.size))
    have S1 := Lib.hid (same_any we cb c3 ((HOd.out.below hbe).rdN HAL.out).2.2 ((HAd.out.below hbe).rdN HAL.out).2.2)
    clear hn hbe
    go_wp2_with fail
    refine S1.out.mono ?_
    rintro e w' ⟨rfl, rfl⟩
    go_wp2_with fail
    go_ret
    exact ⟨rfl, HBe.out⟩
end Go.Proofs.Ytomkfcpellcncaa
