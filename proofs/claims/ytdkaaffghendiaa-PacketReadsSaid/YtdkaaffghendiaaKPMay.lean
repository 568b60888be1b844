/-
  packet.isOfFamily, packet.mayBe.
-/
import Derived.Test.YtdkaaffghendiaaKPSmall
namespace Go.Proofs.Ytdkaaffghendiaa
open Go.RowKit Go.Lib

def famO (a : Ad) : Bool := a.six || shortB a
set_option maxRecDepth 100000 in
set_option maxHeartbeats 4000000 in
theorem isfam_any {a : Ad} (h : a.b.length = 16) (w : World) : Calls Try.prog 57 #[adC a] w fun e w' => e = .returned (.bool (famO a)) ∧ Below w.heap.size w w' := by
  obtain ⟨Y, hY, hq, hr, hbel⟩ := box_ads w a Ad.zero
  have hzs : w.heap.size + 1 < Y.heap.size := Blk_10.lt hr
  have d0 : Y.cell? ⟨w.heap.size, 0, none⟩ = some (.bool a.six) := Blk_10.cell hq rfl
  have hrd : Rd Y (w.heap.size + 1) (some ⟨w.heap.size, 1, none⟩) 16 a.b := range_rd (Blk_8.adB hq) h (by omega)
  have hr4 := hrd.take (k := 4) (by omega)
  obtain ⟨ad, had, hcs⟩ := hr4.cells (by omega)
  cases had
  have HC := Lib.hid hcs
  have H4 : Hid (((a.b.take 4).map v8).length = 4) := Lib.hid (by rw [List.length_map, List.length_take, h]; rfl)
  have HS := Lib.hid (ad4_splice (xs := a.b) (by omega))
  have HL4 := Lib.hid (ad4_len (xs := a.b) (by omega))
  have HEQ := Lib.hid (fun W => short_ad h ▸ run_eql_ad W h HL4.out)
  have HA := Lib.hid h
  unfold adC
  obtain ⟨six, hs⟩ : ∃ s, a.six = s := ⟨_, rfl⟩
  obtain ⟨sh, hsh⟩ : ∃ s, shortB a = s := ⟨_, rfl⟩
  have HF := Lib.hid (show famO a = (six || sh) by unfold famO; rw [hs, hsh])
  rw [hsh] at HEQ
  rw [hs] at d0
  obtain ⟨C0, hC0⟩ : ∃ C, (adL a).toArray = C := ⟨_, rfl⟩
  rw [hC0] at hY ⊢
  rw [← zeroP_8] at hY
  have HC0 := Lib.hid hC0
  have HY := Lib.hid hY
  have HQ := Lib.hid hq
  have HR := Lib.hid hr
  have HB := Lib.hid hbel
  have D0 := Lib.hid d0
  have HZS := Lib.hid hzs
  clear hY hq hr hbel hs hsh h hC0 d0 hrd hr4 hcs hzs
  go_enter Try.func57, Try.ntmps57
  go_wp2_with fail
  rw [HY.out]
  go_region_law (refine step_copy_splice rfl (.tmp 5) (.tmp 7) 22 22 rfl 5 Try.underlying22 size8 (some ⟨w.heap.size + 1, 1, none⟩) (some ⟨w.heap.size, 1, none⟩) 4 16 16 16 (by simp [Act.eval, Act.put]) (by simp [Act.eval, Act.put]) (w.heap.size + 1) 1 (adL Ad.zero) 26 HR.out ((a.b.take 4).map v8) (by rw [H4.out]; rfl) (fun h0 => ⟨rfl, _, rfl, HC.out⟩) (by rw [H4.out]; decide) (oneCell8 _) (w.heap.size + 1) Y (Below.refl _ _).drew (Nat.le_refl _) ?_; intro w3 HG3 hB3; rw [H4.out])
  rw [HS.out] at HG3
  have L1 : Blk w3 26 (w.heap.size + 1) (adL (ad4 a.b)) := HG3
  have Q1 := HQ.out.below (Nat.lt_succ_self _) hB3
  have d0 := Blk_10.cell Q1 (i := 0) (v := .bool six) (by have := D0.out; rw [show (adL a)[0]? = some (.bool a.six) from rfl]; rw [Blk_10.cell HQ.out (i := 0) (v := .bool a.six) rfl] at this; exact this)
  have B3 := HB.out.trans (hB3.mono (Nat.le_succ _))
  have L1 := Lib.hid L1
  have Q1 := Lib.hid Q1
  have B3 := Lib.hid B3
  clear HG3 hB3
  cases six with
  | true =>
    go_wp2_with fail
    go_ret
    exact ⟨by rw [HF.out]; rfl, B3.out⟩
  | false =>
    go_wp2_with (first
      | ((with_reducible show wpList _ _ _ (⟨some 12, _, _, _, _, _⟩ :: _) _ _); refine wpList_loadAd (op := ⟨some 12, _, _, _, _, _⟩) _ rfl (by rfl) w.heap.size 0 (by rfl) a HA.out (Blk_10.range Q1.out) ?_)
      | ((with_reducible show wpList _ _ _ (⟨some 13, _, _, _, _, _⟩ :: _) _ _); refine wpList_loadAd (op := ⟨some 13, _, _, _, _, _⟩) _ rfl (by rfl) (w.heap.size + 1) 0 (by rfl) (ad4 a.b) HL4.out (Blk_10.range L1.out) ?_)
      | ((with_reducible show wpList _ _ _ (⟨some 14, _, _, _, _, _⟩ :: _) _ _); refine wpList_eqlw_8 (op := ⟨some 14, _, _, _, _, _⟩) 26 _ _ _ rfl (by rfl) (adL a).toArray (adL (ad4 a.b)).toArray (by rfl) (by rfl) guard_ad sh HEQ.out ?_))
    go_ret
    exact ⟨by rw [HF.out]; rfl, B3.out⟩

/-- May a segment be made of the tuple and the flags? -/
def mayB (t : Tu) (f : Int) : Bool := t.s.six == t.d.six && (famO t.s && (famO t.d && (isPt t.pr && (inB t.sp 0 65535 && (inB t.dp 0 65535 && inB f 0 (flI t.pr))))))
set_option maxRecDepth 100000 in
set_option maxHeartbeats 4000000 in
theorem pmaybe_any {t : Tu} (h : t.Ok) (f : Int) (w : World) : Calls Try.prog 30 #[tuC t, .int .i64 f] w fun e w' => e = .returned (.bool (mayB t f)) ∧ Below w.heap.size w w' := by
  obtain ⟨Y, hY⟩ : ∃ Y : World, w.alloc (.cells (tuL t).toArray 28) = Y := ⟨_, rfl⟩
  have HQ := Lib.hid (show Blk Y 28 w.heap.size (tuL t) by rw [← hY]; exact Blk_10.new w _ _)
  have HB := Lib.hid (show Below w.heap.size w Y by rw [← hY]; exact (Below.refl w.heap.size w).alloc (Nat.le_refl _) _)
  have d0 := tu_six HQ.out
  have d17 : Y.cell? ⟨w.heap.size, 17, none⟩ = some (.bool t.d.six) := Blk_10.cell HQ.out (by unfold tuL; rw [List.getElem?_append_right (by rw [adL_len h.s]; omega), adL_len h.s]; rfl)
  obtain ⟨b1, h1⟩ : ∃ b, t.s.six = b := ⟨_, rfl⟩
  obtain ⟨b2, h2⟩ : ∃ b, t.d.six = b := ⟨_, rfl⟩
  obtain ⟨b3, h3⟩ : ∃ b, famO t.s = b := ⟨_, rfl⟩
  obtain ⟨b4, h4⟩ : ∃ b, famO t.d = b := ⟨_, rfl⟩
  obtain ⟨b5, h5⟩ : ∃ b, isPt t.pr = b := ⟨_, rfl⟩
  obtain ⟨b6, h6⟩ : ∃ b, inB t.sp 0 65535 = b := ⟨_, rfl⟩
  obtain ⟨b7, h7⟩ : ∃ b, inB t.dp 0 65535 = b := ⟨_, rfl⟩
  obtain ⟨b8, h8⟩ : ∃ b, inB f 0 (flI t.pr) = b := ⟨_, rfl⟩
  have HF := Lib.hid (show mayB t f = (b1 == b2 && (b3 && (b4 && (b5 && (b6 && (b7 && b8)))))) by unfold mayB; rw [h1, h2, h3, h4, h5, h6, h7, h8])
  have C3 := Lib.hid (fun W => h3 ▸ isfam_any h.s W)
  have C4 := Lib.hid (fun W => h4 ▸ isfam_any h.d W)
  have C5 := Lib.hid (fun W => h5 ▸ isport_any t.pr W)
  have C6 := Lib.hid (fun W => h6 ▸ pwithin_any t.sp 65535 W)
  have C7 := Lib.hid (fun W => h7 ▸ pwithin_any t.dp 65535 W)
  have C8 := Lib.hid (fun W => h8 ▸ pwithin_any f (flI t.pr) W)
  have HO := Lib.hid h
  rw [h1] at d0
  rw [h2] at d17
  unfold tuC
  obtain ⟨C, hC⟩ : ∃ C, (tuL t).toArray = C := ⟨_, rfl⟩
  rw [hC] at hY ⊢
  have HY := Lib.hid hY
  rw [← HY.out] at d0 d17
  obtain ⟨fl, hfl⟩ : ∃ b, flI t.pr = b := ⟨_, rfl⟩
  have CF := Lib.hid (fun W => hfl ▸ flagsof_any t.pr W)
  rw [hfl] at C8
  obtain ⟨R, hR⟩ : ∃ R, mayB t f = R := ⟨_, rfl⟩
  rw [hR] at HF ⊢
  clear hY h1 h2 h3 h4 h5 h6 h7 h8 h hC hfl hR
  go_enter Try.func30, Try.ntmps30
  by_cases he : b1 = b2
  · subst he
    have hb1 : (b1 == b1) = true := by cases b1 <;> rfl
    go_wp2_with ((with_reducible show wpList _ _ _ (⟨some 14, _, _, _, _, _⟩ :: _) _ _); rw [HY.out]; refine wpList_loadAd (op := ⟨some 14, _, _, _, _, _⟩) _ rfl (by rfl) w.heap.size 0 (by rfl) t.s HO.out.s (tu_src HQ.out) ?_)
    refine (C3.out _).mono ?_
    rintro e w3 ⟨rfl, hb3⟩
    have HB3 := Lib.hid (HB.out.trans (hb3.mono HB.out.size))
    have HQ3 := Lib.hid (HQ.out.below HQ.out.lt hb3)
    clear hb3 d0 d17
    cases b3 with
    | false =>
      go_wp2_with fail
      go_ret
      exact ⟨by rw [HF.out, hb1]; rfl, HB3.out⟩
    | true =>
      go_wp2_with ((with_reducible show wpList _ _ _ (⟨some 19, _, _, _, _, _⟩ :: _) _ _); refine wpList_loadAd (op := ⟨some 19, _, _, _, _, _⟩) _ rfl (by rfl) w.heap.size 17 (by rfl) t.d HO.out.d (tu_dst HQ3.out HO.out) ?_)
      refine (C4.out _).mono ?_
      rintro e w4 ⟨rfl, hb4⟩
      have HB4 := Lib.hid (HB3.out.trans (hb4.mono HB3.out.size))
      have HQ4 := Lib.hid (HQ3.out.below HQ3.out.lt hb4)
      clear hb4
      obtain ⟨n0, n1, n2⟩ := tu_num HQ4.out HO.out
      cases b4 with
      | false =>
        go_wp2_with fail
        go_ret
        exact ⟨by rw [HF.out, hb1]; rfl, HB4.out⟩
      | true =>
        go_wp2_with fail
        refine (C5.out _).mono ?_
        rintro e w5 ⟨rfl, rfl⟩
        cases b5 with
        | false =>
          go_wp2_with fail
          go_ret
          exact ⟨by rw [HF.out, hb1]; rfl, HB4.out⟩
        | true =>
          go_wp2_with fail
          refine (C6.out _).mono ?_
          rintro e w5 ⟨rfl, rfl⟩
          cases b6 with
          | false =>
            go_wp2_with fail
            go_ret
            exact ⟨by rw [HF.out, hb1]; rfl, HB4.out⟩
          | true =>
            go_wp2_with fail
            refine (C7.out _).mono ?_
            rintro e w5 ⟨rfl, rfl⟩
            cases b7 with
            | false =>
              go_wp2_with fail
              go_ret
              exact ⟨by rw [HF.out, hb1]; rfl, HB4.out⟩
            | true =>
              go_wp2_with fail
              refine (CF.out _).mono ?_
              rintro e w5 ⟨rfl, rfl⟩
              go_wp2_with fail
              refine (C8.out _).mono ?_
              rintro e w5 ⟨rfl, rfl⟩
              go_wp2_with fail
              go_ret
              exact ⟨by rw [HF.out, hb1]; cases b8 <;> rfl, HB4.out⟩
  · have hb1 : (b1 == b2) = false := by cases b1 <;> cases b2 <;> first | rfl | exact absurd rfl he
    clear he
    go_wp2_with fail
    go_ret
    exact ⟨by rw [HF.out, hb1]; rfl, by rw [HY.out]; exact HB.out⟩
end Go.Proofs.Ytdkaaffghendiaa
