/-
  The document's Known and Right (stage 21).
  The document's Few, Same, Older; the laws' few.
-/
import Derived.Test.YtfbiinipiklkaaaFLLd
import Derived.Test.YtfbiinipiklkaaaNmR
import Derived.Test.YtfbiinipiklkaaaHRBy
import Derived.Deep.DeepCutAuto
import Derived.Test.YtfbiinipiklkaaaZRef2
import Derived.Test.YtfbiinipiklkaaaQ10
import Derived.BigQuiet
import Derived.Deep.QuietTactic
namespace Go.Proofs.Ytfbiinipiklkaaa
set_option maxRecDepth 100000
open Go.RowKit Go.Lib

theorem box_fw1 (w : World) (f : Fw) : ∃ Y : World, w.alloc (.cells (fwL f).toArray 28) = Y ∧ Blk_10 Y 28 w.heap.size (fwL f) ∧ Below w.heap.size w Y ∧ Y.heap.size = w.heap.size + 1 :=
  ⟨_, rfl, Blk_10.new w _ _, (Below.refl w.heap.size w).alloc (Nat.le_refl _) _, by simp⟩
set_option maxHeartbeats 16000000 in
theorem rknown_any {t : Tu} (ho : t.Ok) (w : World) : Calls Try.prog 35 #[tuC t] w fun e w' => e = .returned (.bool (knownB t)) ∧ Below w.heap.size w w' := by
  obtain ⟨Y, hY, hb, hbel, _⟩ := box_tu1 w t
  obtain ⟨C0, hC0⟩ : ∃ C, (tuL t).toArray = C := ⟨_, rfl⟩
  have HY := Lib.hid (show w.alloc (.cells C0 26) = Y by rw [← hC0]; exact hY)
  have HK := Lib.hid hb
  have HB := Lib.hid hbel
  have hte : tuC t = .agg C0 := by unfold tuC; rw [hC0]
  rw [hte]
  obtain ⟨r, hr⟩ : ∃ r, knownB t = r := ⟨_, rfl⟩
  rw [hr]
  have HR := Lib.hid hr
  have q0 : Y.cell? ⟨w.heap.size, 0, none⟩ = some (.bool t.s.six) := hb.cell (i := 0) (v := .bool t.s.six) (by unfold tuL adL; rfl)
  have q1 : Y.cell? ⟨w.heap.size, 17, none⟩ = some (.bool t.d.six) := tu_dix hb ho
  have HQ : Hid (∀ W, Below Y.heap.size Y W → W.cell? ⟨w.heap.size, 34, none⟩ = some (.int .i64 t.pr) ∧ W.cell? ⟨w.heap.size, 35, none⟩ = some (.int .i64 t.sp) ∧ W.cell? ⟨w.heap.size, 36, none⟩ = some (.int .i64 t.dp)) := Lib.hid (fun W h => by
    have hk := Blk_10.below hb (Blk_10.lt hb) h
    exact ⟨hk.cell (i := 34) (tuL_num ho 0), hk.cell (i := 35) (tuL_num ho 1), hk.cell (i := 36) (tuL_num ho 2)⟩)
  have HA : Hid (∀ W, Below Y.heap.size Y W → W.rangeAt w.heap.size 0 (adL t.s) ∧ W.rangeAt w.heap.size 17 (adL t.d)) := Lib.hid (fun W h => by
    have hk := Blk_10.below hb (Blk_10.lt hb) h
    exact ⟨tu_src hk, tu_dst hk ho⟩)
  have HS1 := Lib.hid (fun W => rshort_any ho.s W)
  have HS2 := Lib.hid (fun W => rshort_any ho.d W)
  unfold adC at HS1 HS2
  have HZ1 := Lib.hid (sizeAdL ho.s)
  have HZ2 := Lib.hid (sizeAdL ho.d)
  have HFA : Hid (famB t.s t.d = (t.s.six == t.d.six && (t.s.six || (shortB t.s && shortB t.d)))) := Lib.hid rfl
  have HKN : Hid (knownB t = (famB t.s t.d && (inB' t.pr 0 255 && (inB' t.sp 0 65535 && inB' t.dp 0 65535)))) := Lib.hid rfl
  rw [HFA.out, HR.out] at HKN
  clear hr HR hb hbel hC0 hY hte HFA ho HK
  generalize t.s.six = x at q0 HKN
  generalize t.d.six = y at q1 HKN
  generalize shortB t.s = s1 at HS1 HKN
  generalize shortB t.d = s2 at HS2 HKN
  generalize t.pr = pr at HQ HKN
  generalize t.sp = sp at HQ HKN
  generalize t.dp = dp at HQ HKN
  cases x with
  | true =>
    cases y with
    | true =>
      go_enter Try.func35, Try.ntmps35
      go_upto_region 1 with (fail)
      rw [HY.out]
      go_upto_region 3 with (fail)
      obtain ⟨n0, n1, n2⟩ := HQ.out Y (Below.refl _ _)
      by_cases a1 : 0 ≤ pr
      case neg =>
        obtain rfl : r = false := by rw [HKN.out]; simp [inB', a1]
        go_wp2_with fail
        go_ret
        exact ⟨rfl, HB.out⟩
      case pos =>
        by_cases a2 : pr ≤ 255
        case neg =>
          obtain rfl : r = false := by rw [HKN.out]; simp [inB', a2]
          go_wp2_with fail
          go_ret
          exact ⟨rfl, HB.out⟩
        case pos =>
          by_cases a3 : 0 ≤ sp
          case neg =>
            obtain rfl : r = false := by rw [HKN.out]; simp [inB', a3]
            go_wp2_with fail
            go_ret
            exact ⟨rfl, HB.out⟩
          case pos =>
            by_cases a4 : sp ≤ 65535
            case neg =>
              obtain rfl : r = false := by rw [HKN.out]; simp [inB', a4]
              go_wp2_with fail
              go_ret
              exact ⟨rfl, HB.out⟩
            case pos =>
              by_cases a5 : 0 ≤ dp
              case neg =>
                obtain rfl : r = false := by rw [HKN.out]; simp [inB', a5]
                go_wp2_with fail
                go_ret
                exact ⟨rfl, HB.out⟩
              case pos =>
                by_cases a6 : dp ≤ 65535
                case neg =>
                  obtain rfl : r = false := by rw [HKN.out]; simp [inB', a6]
                  go_wp2_with fail
                  go_ret
                  exact ⟨rfl, HB.out⟩
                case pos =>
                  obtain rfl : r = true := by rw [HKN.out]; simp [inB', a1, a2, a3, a4, a5, a6]
                  go_wp2_with fail
                  go_ret
                  exact ⟨rfl, HB.out⟩
    | false =>
      obtain rfl : r = false := by rw [HKN.out]; rfl
      go_enter Try.func35, Try.ntmps35
      go_upto_region 1 with (fail)
      rw [HY.out]
      go_wp2_with fail
      go_ret
      exact ⟨rfl, HB.out⟩
  | false =>
    cases y with
    | true =>
      obtain rfl : r = false := by rw [HKN.out]; rfl
      go_enter Try.func35, Try.ntmps35
      go_upto_region 1 with (fail)
      rw [HY.out]
      go_wp2_with fail
      go_ret
      exact ⟨rfl, HB.out⟩
    | false =>
      cases s1 with
      | false =>
        obtain rfl : r = false := by rw [HKN.out]; rfl
        go_enter Try.func35, Try.ntmps35
        go_upto_region 1 with (fail)
        rw [HY.out]
        go_wp2_with (first | ((with_reducible show wpList _ _ _ (⟨some 17, _, _, _, _, _⟩ :: _) _ _); refine wpList_loadM (op := ⟨some 17, _, _, _, _, _⟩) 24 _ rfl (by rfl) w.heap.size 0 (by rfl) (adL t.s) (HA.out Y (Below.refl _ _)).1 _ Try.underlying24 rfl HZ1.out ?_) | ((with_reducible refine (HS1.out Y).mono ?_); rintro e w1 ⟨rfl, hb⟩; have D1 := Lib.hid hb; clear hb))
        go_ret
        exact ⟨rfl, HB.out.trans (D1.out.mono HB.out.size)⟩
      | true =>
        cases s2 with
        | false =>
          obtain rfl : r = false := by rw [HKN.out]; rfl
          go_enter Try.func35, Try.ntmps35
          go_upto_region 1 with (fail)
          rw [HY.out]
          go_wp2_with (first | ((with_reducible show wpList _ _ _ (⟨some 17, _, _, _, _, _⟩ :: _) _ _); refine wpList_loadM (op := ⟨some 17, _, _, _, _, _⟩) 24 _ rfl (by rfl) w.heap.size 0 (by rfl) (adL t.s) (HA.out Y (Below.refl _ _)).1 _ Try.underlying24 rfl HZ1.out ?_) | ((with_reducible refine (HS1.out Y).mono ?_); rintro e w1 ⟨rfl, hb⟩; have D1 := Lib.hid hb; clear hb) | ((with_reducible show wpList _ _ _ (⟨some 21, _, _, _, _, _⟩ :: _) _ _); refine wpList_loadM (op := ⟨some 21, _, _, _, _, _⟩) 24 _ rfl (by rfl) w.heap.size 17 (by rfl) (adL t.d) (HA.out w1 D1.out).2 _ Try.underlying24 rfl HZ2.out ?_) | ((with_reducible refine (HS2.out w1).mono ?_); rintro e w2 ⟨rfl, hb⟩; have D2 := Lib.hid (D1.out.trans (hb.mono D1.out.size)); clear hb))
          go_ret
          exact ⟨rfl, HB.out.trans (D2.out.mono HB.out.size)⟩
        | true =>
          go_enter Try.func35, Try.ntmps35
          go_upto_region 1 with (fail)
          rw [HY.out]
          go_upto_region 3 with (first | ((with_reducible show wpList _ _ _ (⟨some 17, _, _, _, _, _⟩ :: _) _ _); refine wpList_loadM (op := ⟨some 17, _, _, _, _, _⟩) 24 _ rfl (by rfl) w.heap.size 0 (by rfl) (adL t.s) (HA.out Y (Below.refl _ _)).1 _ Try.underlying24 rfl HZ1.out ?_) | ((with_reducible refine (HS1.out Y).mono ?_); rintro e w1 ⟨rfl, hb⟩; have D1 := Lib.hid hb; clear hb) | ((with_reducible show wpList _ _ _ (⟨some 21, _, _, _, _, _⟩ :: _) _ _); refine wpList_loadM (op := ⟨some 21, _, _, _, _, _⟩) 24 _ rfl (by rfl) w.heap.size 17 (by rfl) (adL t.d) (HA.out w1 D1.out).2 _ Try.underlying24 rfl HZ2.out ?_) | ((with_reducible refine (HS2.out w1).mono ?_); rintro e w2 ⟨rfl, hb⟩; have D2 := Lib.hid (D1.out.trans (hb.mono D1.out.size)); clear hb))
          clear q0 q1
          obtain ⟨n0, n1, n2⟩ := HQ.out w2 (D2.out)
          by_cases a1 : 0 ≤ pr
          case neg =>
            obtain rfl : r = false := by rw [HKN.out]; simp [inB', a1]
            go_wp2_with fail
            go_ret
            exact ⟨rfl, HB.out.trans (D2.out.mono HB.out.size)⟩
          case pos =>
            by_cases a2 : pr ≤ 255
            case neg =>
              obtain rfl : r = false := by rw [HKN.out]; simp [inB', a2]
              go_wp2_with fail
              go_ret
              exact ⟨rfl, HB.out.trans (D2.out.mono HB.out.size)⟩
            case pos =>
              by_cases a3 : 0 ≤ sp
              case neg =>
                obtain rfl : r = false := by rw [HKN.out]; simp [inB', a3]
                go_wp2_with fail
                go_ret
                exact ⟨rfl, HB.out.trans (D2.out.mono HB.out.size)⟩
              case pos =>
                by_cases a4 : sp ≤ 65535
                case neg =>
                  obtain rfl : r = false := by rw [HKN.out]; simp [inB', a4]
                  go_wp2_with fail
                  go_ret
                  exact ⟨rfl, HB.out.trans (D2.out.mono HB.out.size)⟩
                case pos =>
                  by_cases a5 : 0 ≤ dp
                  case neg =>
                    obtain rfl : r = false := by rw [HKN.out]; simp [inB', a5]
                    go_wp2_with fail
                    go_ret
                    exact ⟨rfl, HB.out.trans (D2.out.mono HB.out.size)⟩
                  case pos =>
                    by_cases a6 : dp ≤ 65535
                    case neg =>
                      obtain rfl : r = false := by rw [HKN.out]; simp [inB', a6]
                      go_wp2_with fail
                      go_ret
                      exact ⟨rfl, HB.out.trans (D2.out.mono HB.out.size)⟩
                    case pos =>
                      obtain rfl : r = true := by rw [HKN.out]; simp [inB', a1, a2, a3, a4, a5, a6]
                      go_wp2_with fail
                      go_ret
                      exact ⟨rfl, HB.out.trans (D2.out.mono HB.out.size)⟩
set_option maxHeartbeats 16000000 in
theorem rright21_any (f : Fw) (hn : f.nm.length ≤ 1000000) (w : World) : Calls Try.prog 14 #[fwC f] w fun e w' => e = .returned (.bool (rightF f)) ∧ Below w.heap.size w w' := by
  obtain ⟨Y, hY, hb, hbel, _⟩ := box_fw1 w f
  obtain ⟨C0, hC0⟩ : ∃ C, (fwL f).toArray = C := ⟨_, rfl⟩
  have HY := Lib.hid (show w.alloc (.cells C0 28) = Y by rw [← hC0]; exact hY)
  have HB := Lib.hid hbel
  have hte : fwC f = .agg C0 := by unfold fwC; rw [hC0]
  rw [hte]
  obtain ⟨r, hr⟩ : ∃ r, rightF f = r := ⟨_, rfl⟩
  rw [hr]
  have HKN : Hid (rightF f = (knownB f.k && (nameB f.nm && (inB' f.st 1 5 && (inB' f.sn 0 1099511627776 && inB' f.no 0 1152921504606846976))))) := Lib.hid rfl
  rw [hr] at HKN
  have HQ : Hid (∀ W, Below Y.heap.size Y W → W.cell? ⟨w.heap.size, 37, none⟩ = some (.string ⟨f.nm.toArray⟩) ∧ W.cell? ⟨w.heap.size, 38, none⟩ = some (.int .i64 f.st) ∧ W.cell? ⟨w.heap.size, 39, none⟩ = some (.int .i64 f.sn) ∧ W.cell? ⟨w.heap.size, 40, none⟩ = some (.int .i64 f.no)) := Lib.hid (fun W h => by
    have hk := Blk_10.below hb (Blk_10.lt hb) h
    exact ⟨hk.cell (i := 37) (fw_nm f), hk.cell (i := 38) (fw_st f), hk.cell (i := 39) (fw_sn f), hk.cell (i := 40) (fw_no f)⟩)
  have HA := Lib.hid (fw_key (Blk_10.range hb))
  have HZ := Lib.hid (sizeTuL f.ok)
  have HKW := Lib.hid (fun W => rknown_any f.ok W)
  unfold tuC at HKW
  have HNW := Lib.hid (fun W => rname_any f.nm hn W)
  clear hr hb hbel hC0 hY hte hn
  generalize knownB f.k = kn at HKW HKN
  generalize nameB f.nm = nb at HNW HKN
  generalize f.st = st at HQ HKN
  generalize f.sn = sn at HQ HKN
  generalize f.no = no at HQ HKN
  cases kn with
  | false =>
    obtain rfl : r = false := by rw [HKN.out]; rfl
    go_enter Try.func14, Try.ntmps14
    go_upto_region 1 with (fail)
    rw [HY.out]
    go_wp2_with (first | ((with_reducible show wpList _ _ _ (⟨some 4, _, _, _, _, _⟩ :: _) _ _); refine wpList_loadM (op := ⟨some 4, _, _, _, _, _⟩) 26 _ rfl (by rfl) w.heap.size 0 (by rfl) (tuL f.k) HA.out _ Try.underlying26 rfl HZ.out ?_) | ((with_reducible refine (HKW.out Y).mono ?_); rintro e w1 ⟨rfl, hb⟩; have D1 := Lib.hid hb; clear hb; obtain ⟨n0, n1, n2, n3⟩ := HQ.out w1 D1.out))
    go_ret
    exact ⟨rfl, HB.out.trans (D1.out.mono HB.out.size)⟩
  | true =>
    cases nb with
    | false =>
      obtain rfl : r = false := by rw [HKN.out]; rfl
      go_enter Try.func14, Try.ntmps14
      go_upto_region 1 with (fail)
      rw [HY.out]
      go_wp2_with (first | ((with_reducible show wpList _ _ _ (⟨some 4, _, _, _, _, _⟩ :: _) _ _); refine wpList_loadM (op := ⟨some 4, _, _, _, _, _⟩) 26 _ rfl (by rfl) w.heap.size 0 (by rfl) (tuL f.k) HA.out _ Try.underlying26 rfl HZ.out ?_) | ((with_reducible refine (HKW.out Y).mono ?_); rintro e w1 ⟨rfl, hb⟩; have D1 := Lib.hid hb; clear hb; obtain ⟨n0, n1, n2, n3⟩ := HQ.out w1 D1.out) | ((with_reducible refine (HNW.out w1).mono ?_); rintro e w2 ⟨rfl, rfl⟩))
      go_ret
      exact ⟨rfl, HB.out.trans (D1.out.mono HB.out.size)⟩
    | true =>
      by_cases a1 : 1 ≤ st
      case neg =>
        obtain rfl : r = false := by rw [HKN.out]; simp [inB', a1]
        go_enter Try.func14, Try.ntmps14
        go_upto_region 1 with (fail)
        rw [HY.out]
        go_wp2_with (first | ((with_reducible show wpList _ _ _ (⟨some 4, _, _, _, _, _⟩ :: _) _ _); refine wpList_loadM (op := ⟨some 4, _, _, _, _, _⟩) 26 _ rfl (by rfl) w.heap.size 0 (by rfl) (tuL f.k) HA.out _ Try.underlying26 rfl HZ.out ?_) | ((with_reducible refine (HKW.out Y).mono ?_); rintro e w1 ⟨rfl, hb⟩; have D1 := Lib.hid hb; clear hb; obtain ⟨n0, n1, n2, n3⟩ := HQ.out w1 D1.out) | ((with_reducible refine (HNW.out w1).mono ?_); rintro e w2 ⟨rfl, rfl⟩))
        go_ret
        exact ⟨rfl, HB.out.trans (D1.out.mono HB.out.size)⟩
      case pos =>
        by_cases a2 : st ≤ 5
        case neg =>
          obtain rfl : r = false := by rw [HKN.out]; simp [inB', a2]
          go_enter Try.func14, Try.ntmps14
          go_upto_region 1 with (fail)
          rw [HY.out]
          go_wp2_with (first | ((with_reducible show wpList _ _ _ (⟨some 4, _, _, _, _, _⟩ :: _) _ _); refine wpList_loadM (op := ⟨some 4, _, _, _, _, _⟩) 26 _ rfl (by rfl) w.heap.size 0 (by rfl) (tuL f.k) HA.out _ Try.underlying26 rfl HZ.out ?_) | ((with_reducible refine (HKW.out Y).mono ?_); rintro e w1 ⟨rfl, hb⟩; have D1 := Lib.hid hb; clear hb; obtain ⟨n0, n1, n2, n3⟩ := HQ.out w1 D1.out) | ((with_reducible refine (HNW.out w1).mono ?_); rintro e w2 ⟨rfl, rfl⟩))
          go_ret
          exact ⟨rfl, HB.out.trans (D1.out.mono HB.out.size)⟩
        case pos =>
          by_cases a3 : 0 ≤ sn
          case neg =>
            obtain rfl : r = false := by rw [HKN.out]; simp [inB', a3]
            go_enter Try.func14, Try.ntmps14
            go_upto_region 1 with (fail)
            rw [HY.out]
            go_wp2_with (first | ((with_reducible show wpList _ _ _ (⟨some 4, _, _, _, _, _⟩ :: _) _ _); refine wpList_loadM (op := ⟨some 4, _, _, _, _, _⟩) 26 _ rfl (by rfl) w.heap.size 0 (by rfl) (tuL f.k) HA.out _ Try.underlying26 rfl HZ.out ?_) | ((with_reducible refine (HKW.out Y).mono ?_); rintro e w1 ⟨rfl, hb⟩; have D1 := Lib.hid hb; clear hb; obtain ⟨n0, n1, n2, n3⟩ := HQ.out w1 D1.out) | ((with_reducible refine (HNW.out w1).mono ?_); rintro e w2 ⟨rfl, rfl⟩))
            go_ret
            exact ⟨rfl, HB.out.trans (D1.out.mono HB.out.size)⟩
          case pos =>
            by_cases a4 : sn ≤ 1099511627776
            case neg =>
              obtain rfl : r = false := by rw [HKN.out]; simp [inB', a4]
              go_enter Try.func14, Try.ntmps14
              go_upto_region 1 with (fail)
              rw [HY.out]
              go_wp2_with (first | ((with_reducible show wpList _ _ _ (⟨some 4, _, _, _, _, _⟩ :: _) _ _); refine wpList_loadM (op := ⟨some 4, _, _, _, _, _⟩) 26 _ rfl (by rfl) w.heap.size 0 (by rfl) (tuL f.k) HA.out _ Try.underlying26 rfl HZ.out ?_) | ((with_reducible refine (HKW.out Y).mono ?_); rintro e w1 ⟨rfl, hb⟩; have D1 := Lib.hid hb; clear hb; obtain ⟨n0, n1, n2, n3⟩ := HQ.out w1 D1.out) | ((with_reducible refine (HNW.out w1).mono ?_); rintro e w2 ⟨rfl, rfl⟩))
              go_ret
              exact ⟨rfl, HB.out.trans (D1.out.mono HB.out.size)⟩
            case pos =>
              by_cases a5 : 0 ≤ no
              case neg =>
                obtain rfl : r = false := by rw [HKN.out]; simp [inB', a5]
                go_enter Try.func14, Try.ntmps14
                go_upto_region 1 with (fail)
                rw [HY.out]
                go_wp2_with (first | ((with_reducible show wpList _ _ _ (⟨some 4, _, _, _, _, _⟩ :: _) _ _); refine wpList_loadM (op := ⟨some 4, _, _, _, _, _⟩) 26 _ rfl (by rfl) w.heap.size 0 (by rfl) (tuL f.k) HA.out _ Try.underlying26 rfl HZ.out ?_) | ((with_reducible refine (HKW.out Y).mono ?_); rintro e w1 ⟨rfl, hb⟩; have D1 := Lib.hid hb; clear hb; obtain ⟨n0, n1, n2, n3⟩ := HQ.out w1 D1.out) | ((with_reducible refine (HNW.out w1).mono ?_); rintro e w2 ⟨rfl, rfl⟩))
                go_ret
                exact ⟨rfl, HB.out.trans (D1.out.mono HB.out.size)⟩
              case pos =>
                by_cases a6 : no ≤ 1152921504606846976
                case neg =>
                  obtain rfl : r = false := by rw [HKN.out]; simp [inB', a6]
                  go_enter Try.func14, Try.ntmps14
                  go_upto_region 1 with (fail)
                  rw [HY.out]
                  go_wp2_with (first | ((with_reducible show wpList _ _ _ (⟨some 4, _, _, _, _, _⟩ :: _) _ _); refine wpList_loadM (op := ⟨some 4, _, _, _, _, _⟩) 26 _ rfl (by rfl) w.heap.size 0 (by rfl) (tuL f.k) HA.out _ Try.underlying26 rfl HZ.out ?_) | ((with_reducible refine (HKW.out Y).mono ?_); rintro e w1 ⟨rfl, hb⟩; have D1 := Lib.hid hb; clear hb; obtain ⟨n0, n1, n2, n3⟩ := HQ.out w1 D1.out) | ((with_reducible refine (HNW.out w1).mono ?_); rintro e w2 ⟨rfl, rfl⟩))
                  go_ret
                  exact ⟨congrArg (fun z => Ending.returned (.bool z)) (decide_eq_false (Int.not_le.mpr a6)), HB.out.trans (D1.out.mono HB.out.size)⟩
                case pos =>
                  obtain rfl : r = true := by rw [HKN.out]; simp [inB', a1, a2, a3, a4, a5, a6]
                  go_enter Try.func14, Try.ntmps14
                  go_upto_region 1 with (fail)
                  rw [HY.out]
                  go_wp2_with (first | ((with_reducible show wpList _ _ _ (⟨some 4, _, _, _, _, _⟩ :: _) _ _); refine wpList_loadM (op := ⟨some 4, _, _, _, _, _⟩) 26 _ rfl (by rfl) w.heap.size 0 (by rfl) (tuL f.k) HA.out _ Try.underlying26 rfl HZ.out ?_) | ((with_reducible refine (HKW.out Y).mono ?_); rintro e w1 ⟨rfl, hb⟩; have D1 := Lib.hid hb; clear hb; obtain ⟨n0, n1, n2, n3⟩ := HQ.out w1 D1.out) | ((with_reducible refine (HNW.out w1).mono ?_); rintro e w2 ⟨rfl, rfl⟩))
                  go_ret
                  exact ⟨rfl, HB.out.trans (D1.out.mono HB.out.size)⟩
end Go.Proofs.Ytfbiinipiklkaaa
namespace Go.Proofs.Ytfbiinipiklkaaa
set_option maxRecDepth 100000
open Go.RowKit Go.Lib

/-- What is done to a table. -/
structure Ac where
  kind : Int
  fl : Fw
  now : Int
  idle : List Int
  six : idle.length = 6
def acL (a : Ac) : List Value := .int .i64 a.kind :: (fwL a.fl ++ (.int .i64 a.now :: zL a.idle))
theorem zL_len (l : List Int) : (zL l).length = l.length := List.length_map _
theorem acL_len (a : Ac) : (acL a).length = 49 := by
  unfold acL
  rw [List.length_cons, List.length_append, fwL_len, List.length_cons, zL_len, a.six]
theorem acL_one (a : Ac) : ∀ v ∈ acL a, v.oneCell' = true := by
  intro v hv
  unfold acL at hv
  rcases List.mem_cons.1 hv with rfl | hv
  · rfl
  rcases List.mem_append.1 hv with hv | hv
  · exact fwL_one a.fl v hv
  rcases List.mem_cons.1 hv with rfl | hv
  · rfl
  obtain ⟨z, _, rfl⟩ := List.mem_map.1 hv
  rfl
def ac0 : Ac := ⟨0, fw0, 0, [0, 0, 0, 0, 0, 0], rfl⟩
def eAc : Enc Ac where
  S := 38
  T := 47
  k := 49
  bytes := 168
  zero := .agg (acL ac0).toArray
  f := acL
  len := acL_len
  one := acL_one
  und := Try.underlying38
  info := by kernel_rfl
  pos := by decide
  zlen := rfl
  small := by decide
theorem ac_kind (a : Ac) : (acL a)[0]? = some (.int .i64 a.kind) := rfl
theorem ac_fl (a : Ac) {i : Nat} {v : Value} (h : (fwL a.fl)[i]? = some v) : (acL a)[1 + i]? = some v := by
  unfold acL
  rw [Nat.add_comm, List.getElem?_cons_succ, List.getElem?_append_left (List.getElem?_eq_some_iff.1 h).1]
  exact h
theorem ac_now (a : Ac) : (acL a)[42]? = some (.int .i64 a.now) := by
  unfold acL
  rw [List.getElem?_cons_succ, List.getElem?_append_right (by rw [fwL_len]; omega), fwL_len]
  rfl
theorem ac_idle (a : Ac) (i : Nat) : (acL a)[43 + i]? = (zL a.idle)[i]? := by
  unfold acL
  rw [show 43 + i = (42 + i) + 1 by omega, List.getElem?_cons_succ, List.getElem?_append_right (by rw [fwL_len]; omega), fwL_len, show 42 + i - 41 = i + 1 by omega, List.getElem?_cons_succ]
/-- Few: names of at most 60 bytes, at most 80 of them. -/
def fewN (l : List (List UInt8)) : Bool := decide (l.length ≤ 80) && l.all fun x => decide (x.length ≤ 60)
theorem fewN_iff (l : List (List UInt8)) : fewN l = true ↔ l.length ≤ 80 ∧ ∀ x, x ∈ l → x.length ≤ 60 := by
  unfold fewN
  simp
theorem fewN_long {l : List (List UInt8)} {j : Nat} {x : List UInt8} (hx : l[j]? = some x) (h : ¬ x.length ≤ 60) : fewN l = false := by
  apply Bool.eq_false_iff.2
  intro h2
  exact h (((fewN_iff l).1 h2).2 x (List.mem_of_getElem? hx))
theorem fewN_end {l : List (List UInt8)} {k : Nat} (hk : ∀ j x, j < k → l[j]? = some x → x.length ≤ 60) (h : l.length ≤ k ∨ 100 ≤ k ∧ k ≤ l.length) : fewN l = decide ((l.length : Int) ≤ 80) := by
  by_cases h1 : l.length ≤ 80
  · rw [decide_eq_true (by omega)]
    refine (fewN_iff l).2 ⟨h1, fun x hx => ?_⟩
    obtain ⟨j, hj⟩ := List.getElem?_of_mem hx
    have := (List.getElem?_eq_some_iff.1 hj).1
    exact hk j x (by omega) hj
  · rw [decide_eq_false (by omega)]
    apply Bool.eq_false_iff.2
    intro h2
    exact h1 ((fewN_iff l).1 h2).1
def nmsF (l : List Fw) : List (List UInt8) := l.map (·.nm)
theorem nmsF_at {l : List Fw} {k : Nat} {x : Fw} (h : l[k]? = some x) : (nmsF l)[k]? = some x.nm := by unfold nmsF; rw [List.getElem?_map, h]; rfl
theorem nmsF_len (l : List Fw) : (nmsF l).length = l.length := List.length_map _
def nmsA (l : List Ac) : List (List UInt8) := l.map (·.fl.nm)
theorem nmsA_at {l : List Ac} {k : Nat} {x : Ac} (h : l[k]? = some x) : (nmsA l)[k]? = some x.fl.nm := by unfold nmsA; rw [List.getElem?_map, h]; rfl
theorem nmsA_len (l : List Ac) : (nmsA l).length = l.length := List.length_map _
set_option maxHeartbeats 4000000 in
theorem rfew21_any {A : Option Addr} {n B : Nat} (c : Nat) {l : List Fw} (hn : n ≤ 9223372036854775807) (w : World) (h : RdG eF w B A n l) :
    Calls Try.prog 29 #[.slice A n c] w fun e w' => e = .returned (.bool (fewN (nmsF l))) ∧ w' = w := by
  have HX := Lib.hid h
  have HL := Lib.hid h.len
  obtain ⟨R, hRR⟩ : ∃ R, fewN (nmsF l) = R := ⟨_, rfl⟩
  rw [hRR]
  have HF := Lib.hid hRR
  clear h hRR
  go_enter Try.func29, Try.ntmps29
  go_wp2_with fail
  go_loop [3] (fun i => ∃ k : Nat, k ≤ n ∧ k ≤ 100 ∧ i = .int .i64 (k : Int) ∧ Hid (∀ j x, j < k → (nmsF l)[j]? = some x → x.length ≤ 60))
    (fun i => 200 - (intOf i).toNat)
  case atStart => exact ⟨0, Nat.zero_le _, by omega, rfl, Lib.hid (fun j x hj _ => absurd hj (by omega))⟩
  case round =>
    obtain ⟨k, hk, hk5, rfl, HK⟩ := hrel
    by_cases hlt : k < n ∧ k < 100
    · obtain ⟨hlt, hl5⟩ := hlt
      have h1 : (k : Int) < (n : Int) := by omega
      have h2 : (k : Int) < 100 := by omega
      have h0 : (0 : Int) ≤ (k : Int) := by omega
      obtain ⟨b, off, rfl, _⟩ := HX.out.addr (by omega)
      obtain ⟨x, hx⟩ : ∃ x, l[k]? = some x := ⟨_, List.getElem?_eq_getElem (by rw [HL.out]; exact hlt)⟩
      have q3 : w.cell? ⟨b, off + k * 41 + 37, none⟩ = some (.string ⟨x.nm.toArray⟩) := HX.out.cell hx 37 (fw_nm x)
      obtain ⟨m, hm⟩ : ∃ m, x.nm.length = m := ⟨_, rfl⟩
      have hs : (ByteArray.mk x.nm.toArray).size = m := by rw [← hm]; rfl
      have HXX := Lib.hid (nmsF_at hx)
      have HM := Lib.hid hm
      clear hm hx
      by_cases h3 : m ≤ 60
      · have h4 : ¬ 60 < (m : Int) := by omega
        clear hlt hl5
        go_wp2_with fail
        go_round
        case rel =>
          refine ⟨k + 1, by omega, by omega, by go_num, Lib.hid (fun j y hj hy => ?_)⟩
          rcases Nat.lt_or_ge j k with h5 | h5
          · exact HK.out j y h5 hy
          · obtain rfl : j = k := by omega
            rw [HXX.out] at hy
            cases hy
            rw [HM.out]
            exact h3
        case measure => simp [intOf]; omega
      · have h4 : 60 < (m : Int) := by omega
        have hv : R = false := by
          rw [← HF.out]
          exact fewN_long HXX.out (by rw [HM.out]; exact h3)
        subst hv
        clear hlt hl5
        go_wp2_with fail
        go_ret
        exact ⟨rfl, rfl⟩
    · have hv : R = decide ((n : Int) ≤ 80) := by
        rw [← HF.out, ← HL.out, ← nmsF_len]
        exact fewN_end HK.out (by rw [nmsF_len, HL.out]; omega)
      subst hv
      by_cases h5 : k < n
      · have h1 : (k : Int) < (n : Int) := by omega
        have h2 : ¬ (k : Int) < 100 := by omega
        go_wp2_with fail
        go_ret
        exact ⟨rfl, rfl⟩
      · have h1 : ¬ (k : Int) < (n : Int) := by omega
        go_wp2_with fail
        go_ret
        exact ⟨rfl, rfl⟩
set_option maxHeartbeats 4000000 in
theorem rfewA_any {A : Option Addr} {n B : Nat} (c : Nat) {l : List Ac} (hn : n ≤ 9223372036854775807) (w : World) (h : RdG eAc w B A n l) :
    Calls Try.prog 17 #[.slice A n c] w fun e w' => e = .returned (.bool (fewN (nmsA l))) ∧ w' = w := by
  have HX := Lib.hid h
  have HL := Lib.hid h.len
  obtain ⟨R, hRR⟩ : ∃ R, fewN (nmsA l) = R := ⟨_, rfl⟩
  rw [hRR]
  have HF := Lib.hid hRR
  clear h hRR
  go_enter Try.func17, Try.ntmps17
  go_wp2_with fail
  go_loop [3] (fun i => ∃ k : Nat, k ≤ n ∧ k ≤ 100 ∧ i = .int .i64 (k : Int) ∧ Hid (∀ j x, j < k → (nmsA l)[j]? = some x → x.length ≤ 60))
    (fun i => 200 - (intOf i).toNat)
  case atStart => exact ⟨0, Nat.zero_le _, by omega, rfl, Lib.hid (fun j x hj _ => absurd hj (by omega))⟩
  case round =>
    obtain ⟨k, hk, hk5, rfl, HK⟩ := hrel
    by_cases hlt : k < n ∧ k < 100
    · obtain ⟨hlt, hl5⟩ := hlt
      have h1 : (k : Int) < (n : Int) := by omega
      have h2 : (k : Int) < 100 := by omega
      have h0 : (0 : Int) ≤ (k : Int) := by omega
      obtain ⟨b, off, rfl, _⟩ := HX.out.addr (by omega)
      obtain ⟨x, hx⟩ : ∃ x, l[k]? = some x := ⟨_, List.getElem?_eq_getElem (by rw [HL.out]; exact hlt)⟩
      have q3 : w.cell? ⟨b, off + k * 49 + 38, none⟩ = some (.string ⟨x.fl.nm.toArray⟩) := HX.out.cell hx 38 (ac_fl x (fw_nm x.fl))
      obtain ⟨m, hm⟩ : ∃ m, x.fl.nm.length = m := ⟨_, rfl⟩
      have hs : (ByteArray.mk x.fl.nm.toArray).size = m := by rw [← hm]; rfl
      have HXX := Lib.hid (nmsA_at hx)
      have HM := Lib.hid hm
      clear hm hx
      by_cases h3 : m ≤ 60
      · have h4 : ¬ 60 < (m : Int) := by omega
        clear hlt hl5
        go_wp2_with fail
        go_round
        case rel =>
          refine ⟨k + 1, by omega, by omega, by go_num, Lib.hid (fun j y hj hy => ?_)⟩
          rcases Nat.lt_or_ge j k with h5 | h5
          · exact HK.out j y h5 hy
          · obtain rfl : j = k := by omega
            rw [HXX.out] at hy
            cases hy
            rw [HM.out]
            exact h3
        case measure => simp [intOf]; omega
      · have h4 : 60 < (m : Int) := by omega
        have hv : R = false := by
          rw [← HF.out]
          exact fewN_long HXX.out (by rw [HM.out]; exact h3)
        subst hv
        clear hlt hl5
        go_wp2_with fail
        go_ret
        exact ⟨rfl, rfl⟩
    · have hv : R = decide ((n : Int) ≤ 80) := by
        rw [← HF.out, ← HL.out, ← nmsA_len]
        exact fewN_end HK.out (by rw [nmsA_len, HL.out]; omega)
      subst hv
      by_cases h5 : k < n
      · have h1 : (k : Int) < (n : Int) := by omega
        have h2 : ¬ (k : Int) < 100 := by omega
        go_wp2_with fail
        go_ret
        exact ⟨rfl, rfl⟩
      · have h1 : ¬ (k : Int) < (n : Int) := by omega
        go_wp2_with fail
        go_ret
        exact ⟨rfl, rfl⟩
theorem list_same {α : Type} {l m : List α} (hl : l.length = m.length) (h : ∀ j, j < l.length → l[j]? = m[j]?) : l = m := by
  apply List.ext_getElem? 
  intro j
  by_cases hj : j < l.length
  · exact h j hj
  · rw [List.getElem?_eq_none (by omega), List.getElem?_eq_none (by omega)]
/-- The same flows? -/
def sameF : List Fw → List Fw → Bool
  | [], [] => true
  | a :: l, b :: m => fwQ a b && sameF l m
  | _, _ => false
theorem sameF_iff : ∀ {l m : List Fw}, sameF l m = true ↔ l = m
  | [], [] => by simp [sameF]
  | [], _ :: _ => by simp [sameF]
  | _ :: _, [] => by simp [sameF]
  | a :: l, b :: m => by
    unfold sameF
    rw [Bool.and_eq_true, fwQ_eq, sameF_iff, List.cons.injEq]
set_option maxHeartbeats 8000000 in
theorem rsame21_any {A A' : Option Addr} {n n' B B' : Nat} (c c' : Nat) {l m : List Fw} (hn : n ≤ 9223372036854775807) (w : World) (hB : B ≤ w.heap.size) (hB' : B' ≤ w.heap.size) (h : RdG eF w B A n l) (h' : RdG eF w B' A' n' m) :
    Calls Try.prog 23 #[.slice A n c, .slice A' n' c'] w fun e w' => e = .returned (.bool (sameF l m)) ∧ Below w.heap.size w w' := by
  have HR := Lib.hid h
  have HR2 := Lib.hid h'
  have HL := Lib.hid h.len
  have HL2 := Lib.hid h'.len
  have HBB := Lib.hid hB
  have HBB2 := Lib.hid hB'
  obtain ⟨R, hRR⟩ : ∃ R, sameF l m = R := ⟨_, rfl⟩
  rw [hRR]
  have HF := Lib.hid hRR
  clear h h' hRR hB hB'
  by_cases hnn : n = n'
  case neg =>
    have h1 : ((n : Int) != (n' : Int)) = true := by
      rw [bne_iff_ne]
      omega
    have hf : R = false := by
      rw [← HF.out]
      exact Bool.eq_false_iff.2 (fun e => hnn (by rw [← HL.out, ← HL2.out, sameF_iff.1 e]))
    subst hf
    clear hnn
    go_enter Try.func23, Try.ntmps23
    go_wp2_with fail
    go_ret
    exact ⟨rfl, Below.refl _ _⟩
  subst hnn
  have hnn : ((n : Int) != (n : Int)) = false := by simp
  go_enter Try.func23, Try.ntmps23
  go_wp2_with fail
  go_loopw [5] (fun i wr => ∃ k : Nat, k ≤ n ∧ i = .int .i64 (k : Int) ∧ Hid (∀ j, j < k → l[j]? = m[j]?) ∧ Hid (Below w.heap.size w wr))
    (fun i _ => n - (intOf i).toNat)
  case atStart => exact ⟨0, Nat.zero_le _, rfl, Lib.hid (fun j hj => absurd hj (by omega)), Lib.hid (Below.refl _ _)⟩
  case round =>
    obtain ⟨k, hk, rfl, HAL, HBE⟩ := hrel
    by_cases hlt : k < n
    · have h1 : (k : Int) < (n : Int) := by omega
      have h0 : (0 : Int) ≤ (k : Int) := by omega
      obtain ⟨b, off, rfl, _⟩ := HR.out.addr (by omega)
      obtain ⟨b', off', rfl, _⟩ := HR2.out.addr (by omega)
      obtain ⟨x, hx⟩ : ∃ x, l[k]? = some x := ⟨_, List.getElem?_eq_getElem (by rw [HL.out]; exact hlt)⟩
      obtain ⟨y, hy⟩ : ∃ y, m[k]? = some y := ⟨_, List.getElem?_eq_getElem (by rw [HL2.out]; exact hlt)⟩
      have RX : Hid (∀ W, Below w.heap.size w W → W.rangeAt b (off + k * 41) (fwL x)) := Lib.hid (fun W hW => (HR.out.below (hW.mono HBB.out)).range hx)
      have RY : Hid (∀ W, Below w.heap.size w W → W.rangeAt b' (off' + k * 41) (fwL y)) := Lib.hid (fun W hW => (HR2.out.below (hW.mono HBB2.out)).range hy)
      have HXX := Lib.hid hx
      have HYY := Lib.hid hy
      have HLT := Lib.hid hlt
      have hk9 : k < 9223372036854775807 := by omega
      obtain ⟨LX, hLX⟩ : ∃ L, (fwL x).toArray = L := ⟨_, rfl⟩
      obtain ⟨LY, hLY⟩ : ∃ L, (fwL y).toArray = L := ⟨_, rfl⟩
      obtain ⟨f, hf⟩ : ∃ f, fwQ x y = f := ⟨_, rfl⟩
      have HNQ : Hid (∀ W : World, (binOp .neq 28 (.agg LX) (.agg LY)).run Try.prog W = .ok (.bool (!f)) W) := Lib.hid (by rw [← hLX, ← hLY, ← hf]; exact run_neq_fw x y)
      have HLX := Lib.hid hLX
      have HLY := Lib.hid hLY
      have HFF := Lib.hid hf
      clear hx hy hlt hLX hLY hf
      go_upto_region 6 with (fail)
      refine wp_region_held_drew (S := fun W => Below w.heap.size w W) (by kernel_rfl) (HBE.out.drew) (fun hHeld => ?_)
      refine tk 0 17 (.slice (some ⟨b, off, none⟩) n c) rfl hHeld ?_
      simp only [Act.put, sA, sZ, sS]
      refine tk 1 18 (.int .i64 (k : Int)) rfl hHeld ?_
      simp only [Act.put, sA, sZ, sS]
      refine tk 2 19 (.pointer (some ⟨b, off + k * 41, none⟩)) rfl hHeld ?_
      simp only [Act.put, sA, sZ, sS]
      refine tkY 3 20 (.agg LX) rfl (by rw [← HLX.out]; exact yieldsIf_load_mid (by rfl) 28 _ rfl b (off + k * 41) (by rfl) (fwL x) _ RX.out Try.underlying28 rfl (sizeFwL x)) hHeld ?_
      simp only [Act.put, sA, sZ, sS]
      refine tk 4 21 (.slice (some ⟨b', off', none⟩) n c') rfl hHeld ?_
      simp only [Act.put, sA, sZ, sS]
      refine tk 5 22 (.int .i64 (k : Int)) rfl hHeld ?_
      simp only [Act.put, sA, sZ, sS]
      refine tk 6 23 (.pointer (some ⟨b', off' + k * 41, none⟩)) rfl hHeld ?_
      simp only [Act.put, sA, sZ, sS]
      refine tkY 7 24 (.agg LY) rfl (by rw [← HLY.out]; exact yieldsIf_load_mid (by rfl) 28 _ rfl b' (off' + k * 41) (by rfl) (fwL y) _ RY.out Try.underlying28 rfl (sizeFwL y)) hHeld ?_
      simp only [Act.put, sA, sZ, sS]
      refine tkY 8 25 (.bool (!f)) rfl (yields_cmpS (by rfl) .neq 28 _ _ _ rfl LX LY (by rfl) (by rfl) guard_fw (!f) HNQ.out) hHeld ?_
      simp only [Act.put, sA, sZ, sS]
      refine wpAnyH_done (by kernel_rfl) ?_ _
      have HB9 := Lib.hid hHeld
      clear hHeld
      cases f
      · have hf : R = false := by
          rw [← HF.out]
          refine Bool.eq_false_iff.2 (fun e => ?_)
          have e2 := HXX.out
          rw [sameF_iff.1 e, HYY.out] at e2
          have e3 := HFF.out
          rw [← Option.some.inj e2, fwQ_eq.2 rfl] at e3
          cases e3
        subst hf
        go_wp2_with fail
        go_ret
        exact ⟨rfl, HB9.out⟩
      · go_wp2_with fail
        go_roundw
        case rel => exact ⟨k + 1, HLT.out, (by have := HLT.out; go_num), Lib.hid (fun j hj => by
          by_cases e : j = k
          · subst e
            rw [HXX.out, HYY.out, fwQ_eq.1 HFF.out]
          · exact HAL.out j (by omega)), HB9⟩
        case measure =>
          have := HLT.out
          simp [intOf]
          omega
    · obtain rfl : k = n := by omega
      have h1 : ¬ (k : Int) < (k : Int) := by omega
      have hf : R = true := by
        rw [← HF.out]
        exact sameF_iff.2 (list_same (by rw [HL.out, HL2.out]) (fun j hj => HAL.out j (by rw [← HL.out]; exact hj)))
      subst hf
      clear hlt hk
      go_wp2_with fail
      go_ret
      exact ⟨rfl, HBE.out⟩
theorem belDraw {B : Nat} {w0 w : World} (h : Below B w0 w) (k : Nat) : Below B w0 (w.drewN k) := ⟨h.os, h.tape, h.output, h.size, h.block⟩
/-- Text, compared where it first differs. -/
theorem less_at : ∀ {x y : List UInt8} {k : Nat} {a b : UInt8}, (∀ j, j < k → x[j]? = y[j]?) → x[k]? = some a → y[k]? = some b → a ≠ b → Op.bytesLess x y = decide (a.toNat < b.toNat)
  | [], _, _, _, _, _, h, _, _ => by simp at h
  | _ :: _, [], _, _, _, _, _, h, _ => by simp at h
  | c :: x, d :: y, 0, a, b, _, h1, h2, hn => by
    simp only [List.getElem?_cons_zero, Option.some.injEq] at h1 h2
    subst h1 h2
    unfold Op.bytesLess
    rw [beq_eq_false_iff_ne.2 hn, Bool.false_and, Bool.or_false]
    rfl
  | c :: x, d :: y, k + 1, a, b, h, h1, h2, hn => by
    have h0 := h 0 (Nat.zero_lt_succ _)
    simp only [List.getElem?_cons_zero, Option.some.injEq] at h0
    subst h0
    rw [List.getElem?_cons_succ] at h1 h2
    have ih := less_at (fun j hj => by
      have := h (j + 1) (by omega)
      rwa [List.getElem?_cons_succ, List.getElem?_cons_succ] at this) h1 h2 hn
    unfold Op.bytesLess
    rw [ih, beq_self_eq_true, Bool.true_and, decide_eq_false (UInt8.lt_irrefl c), Bool.false_or]
set_option maxHeartbeats 16000000 in
theorem rolder21_any {f g : Fw} (hf : f.k.Fit) (hg : g.k.Fit) (w : World) : Calls Try.prog 16 #[fwC f, fwC g] w fun e w' => e = .returned (.bool (olderF f g)) ∧ Below w.heap.size w w' := by
  obtain ⟨Y, hY, hb, hbel, hys⟩ := box_fw1 w f
  obtain ⟨Z, hZ, hc, hcel, hzs⟩ := box_fw1 Y g
  obtain ⟨C0, hC0⟩ : ∃ C, (fwL f).toArray = C := ⟨_, rfl⟩
  obtain ⟨C1, hC1⟩ : ∃ C, (fwL g).toArray = C := ⟨_, rfl⟩
  obtain ⟨B, hB⟩ : ∃ B, w.heap.size = B := ⟨_, rfl⟩
  have HS := Lib.hid hB
  rw [hB] at hb hbel hys
  rw [hys] at hc hcel hzs
  have HY := Lib.hid (show w.alloc (.cells C0 28) = Y by rw [← hC0]; exact hY)
  have HZ := Lib.hid (show Y.alloc (.cells C1 28) = Z by rw [← hC1]; exact hZ)
  have HYS := Lib.hid hys
  have HBE := Lib.hid (show Below B w Z from hbel.trans (hcel.mono (Nat.le_succ B)))
  have e0 : fwC f = .agg C0 := by unfold fwC; rw [hC0]
  have e1 : fwC g = .agg C1 := by unfold fwC; rw [hC1]
  rw [e0, e1]
  obtain ⟨r, hr⟩ : ∃ r, olderF f g = r := ⟨_, rfl⟩
  rw [hr]
  have HR : Hid ((if f.no = g.no then Op.bytesLess (tuB f.k) (tuB g.k) else decide (f.no < g.no)) = r) := Lib.hid hr
  have hb' := Blk_10.below hb (show B < B + 1 by omega) hcel
  have q0 : Z.cell? ⟨B, 40, none⟩ = some (.int .i64 f.no) := hb'.cell (i := 40) (fw_no f)
  have q1 : Z.cell? ⟨B + 1, 40, none⟩ = some (.int .i64 g.no) := hc.cell (i := 40) (fw_no g)
  have HA := Lib.hid (fw_key (Blk_10.range hb'))
  have HA2 := Lib.hid (show ∀ W, Below Z.heap.size Z W → W.rangeAt (B + 1) 0 (tuL g.k) from fun W h => fw_key (Blk_10.range (Blk_10.below hc (by rw [hzs]; omega) h)))
  have HZ1 := Lib.hid (sizeTuL f.ok)
  have HZ2 := Lib.hid (sizeTuL g.ok)
  have HT1 := Lib.hid (fun W => rby_any f.ok hf W)
  have HT2 := Lib.hid (fun W => rby_any g.ok hg W)
  have HL1 := Lib.hid (tuB_len f.ok)
  have HL2 := Lib.hid (tuB_len g.ok)
  unfold tuC at HT1 HT2
  have HZS := Lib.hid hzs
  clear hr hb hbel hc hcel hC0 hC1 hY hZ hb' hys hzs e0 e1 hf hg hB
  generalize f.no = no at q0 HR
  generalize g.no = no' at q1 HR
  by_cases hq : no = no'
  case neg =>
    have hne : (no != no') = true := by rw [bne_iff_ne]; exact hq
    rw [if_neg hq] at HR
    have HR' := HR.out
    subst HR'
    clear HR
    go_enter Try.func16, Try.ntmps16
    go_upto_region 1 with (fail)
    rw [HY.out, HZ.out]
    rw [HS.out]
    go_wp2_with fail
    go_ret
    exact ⟨rfl, by rw [HS.out]; exact HBE.out⟩
  subst hq
  have hne : (no != no) = false := by simp
  rw [if_pos rfl] at HR
  obtain ⟨X1, hX1⟩ : ∃ x, tuB f.k = x := ⟨_, rfl⟩
  obtain ⟨X2, hX2⟩ : ∃ x, tuB g.k = x := ⟨_, rfl⟩
  rw [hX1] at HR HT1 HL1
  rw [hX2] at HR HT2 HL2
  clear hX1 hX2
  go_enter Try.func16, Try.ntmps16
  go_upto_region 1 with (fail)
  rw [HY.out, HZ.out]
  rw [HS.out]
  go_upto_region 5 with (first
    | ((with_reducible show wpList _ _ _ (⟨some 19, _, _, _, _, _⟩ :: _) _ _); refine wpList_loadM (op := ⟨some 19, _, _, _, _, _⟩) 26 _ rfl (by rfl) B 0 (by rfl) (tuL f.k) HA.out _ Try.underlying26 rfl HZ1.out ?_)
    | ((with_reducible refine (HT1.out Z).mono ?_); rintro e w1 ⟨v1, rfl, o1, b1⟩; have O1 := Lib.hid o1; have D1 := Lib.hid b1; clear o1 b1)
    | ((with_reducible show wpList _ _ _ (⟨some 22, _, _, _, _, _⟩ :: _) _ _); refine wpList_loadM (op := ⟨some 22, _, _, _, _, _⟩) 26 _ rfl (by rfl) (B + 1) 0 (by rfl) (tuL g.k) (HA2.out w1 D1.out) _ Try.underlying26 rfl HZ2.out ?_)
    | ((with_reducible refine (HT2.out w1).mono ?_); rintro e w2 ⟨v2, rfl, o2, b2⟩; have O2 := Lib.hid o2; have D2 := Lib.hid b2; clear o2 b2))
  obtain ⟨A1, m1, c1, rfl, hm1, _, _, hr1⟩ := (O1.out.below D2.out).sl
  obtain ⟨A2, m2, c2, rfl, hm2, _, _, hr2⟩ := O2.out.sl
  rw [HL1.out] at hm1
  rw [HL2.out] at hm2
  subst m1 m2
  have R1 := Lib.hid hr1
  have R2 := Lib.hid hr2
  have HBE2 : Hid (Below w.heap.size w w2) := Lib.hid (by
    rw [HS.out]
    exact HBE.out.trans ((D1.out.trans (D2.out.mono D1.out.size)).mono (by rw [HZS.out]; omega)))
  clear hr1 hr2
  obtain ⟨a1, f1, rfl, l1⟩ := R1.out.addr (by decide)
  obtain ⟨a2, f2, rfl, l2⟩ := R2.out.addr (by decide)
  go_wp2_with fail
  go_loopw [7] (fun i wr => ∃ k : Nat, k ≤ 38 ∧ i = .int .i64 (k : Int) ∧ Hid (∀ j, j < k → X1[j]? = X2[j]?) ∧ Hid (Below w2.heap.size w2 wr))
    (fun i _ => 38 - (intOf i).toNat)
  case atStart => exact ⟨0, Nat.zero_le _, rfl, Lib.hid (fun j hj => absurd hj (by omega)), Lib.hid (Below.refl _ _)⟩
  case round =>
    obtain ⟨k, hk, rfl, HAL, HW⟩ := hrel
    by_cases hlt : k < 38
    · have h1 : (k : Int) < 38 := by omega
      have h0 : (0 : Int) ≤ (k : Int) := by omega
      obtain ⟨x, hx⟩ : ∃ x, X1[k]? = some x := ⟨_, List.getElem?_eq_getElem (by rw [HL1.out]; exact hlt)⟩
      obtain ⟨y, hy⟩ : ∃ y, X2[k]? = some y := ⟨_, List.getElem?_eq_getElem (by rw [HL2.out]; exact hlt)⟩
      have q2 : _ = some (Value.int .u8 (batN X1 k : Int)) := (R1.out.below HW.out).cellD hlt
      have q3 : _ = some (Value.int .u8 (batN X2 k : Int)) := (R2.out.below HW.out).cellD hlt
      have ex : batN X1 k = x.toNat := by unfold batN; rw [List.getD, hx]; rfl
      have ey : batN X2 k = y.toNat := by unfold batN; rw [List.getD, hy]; rfl
      rw [ex] at q2
      rw [ey] at q3
      have HXX := Lib.hid hx
      have HYY := Lib.hid hy
      have HLT := Lib.hid hlt
      clear hx hy ex ey hlt
      by_cases hxy : x = y
      · subst hxy
        clear hk
        go_upto_region 8 with (fail)
        go_quiet (fail)
        go_wp2_with fail
        go_roundw
        case rel => exact ⟨k + 1, HLT.out, (by have := HLT.out; go_num), Lib.hid (fun j hj => by
          by_cases e : j = k
          · subst e
            rw [HXX.out, HYY.out]
          · exact HAL.out j (by omega)), Lib.hid (belDraw HW.out _)⟩
        case measure =>
          have := HLT.out
          simp [intOf]
          omega
      · have n1 : (x.toNat != y.toNat) = true := by
          rw [bne_iff_ne]
          exact fun e => hxy (UInt8.toNat_inj.1 e)
        have n2 : ((x.toNat : Int) != (y.toNat : Int)) = true := by
          rw [bne_iff_ne]
          exact fun e => hxy (UInt8.toNat_inj.1 (by omega))
        have hv := less_at HAL.out HXX.out HYY.out hxy
        rw [HR.out] at hv
        subst hv
        clear hk hxy
        go_upto_region 8 with (fail)
        go_quiet (fail)
        go_wp2_with fail
        go_quiet (fail)
        go_wp2_with fail
        go_ret
        exact ⟨rfl, HBE2.out.trans ((belDraw (belDraw HW.out _) _).mono HBE2.out.size)⟩
    · obtain rfl : 38 = k := by omega
      have h1 : ¬ (38 : Int) < 38 := by omega
      have hv : r = false := by
        rw [← HR.out, list_same (l := X1) (m := X2) (by rw [HL1.out, HL2.out]) (fun j hj => HAL.out j (by rw [← HL1.out]; exact hj))]
        exact less_irr X2
      subst hv
      clear hk hlt
      go_wp2_with fail
      go_ret
      exact ⟨rfl, HBE2.out.trans (HW.out.mono HBE2.out.size)⟩
end Go.Proofs.Ytfbiinipiklkaaa
