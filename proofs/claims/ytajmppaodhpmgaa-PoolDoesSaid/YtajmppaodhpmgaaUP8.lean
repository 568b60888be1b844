/-
  The program: Find.
-/
import Derived.Test.YtajmppaodhpmgaaUP7
import Derived.Test.YtajmppaodhpmgaaUC
namespace Go.Proofs.Ytajmppaodhpmgaa
set_option maxRecDepth 100000
open Go.RowKit Go.Lib

theorem results_bk {fn : Func} {p u : Tmp} (hr : fn.results = #[.cell p 36, .tmp u]) (tmps : Array Value) (w : World) (g : Nat) (hp : tmps.getD p undef = .pointer (some ⟨g, 0, none⟩)) (b : Bk) (hb : Blk w 36 g (bkL b))
    (v : Value) (hu : tmps.getD u undef = v) : (results fn tmps).run Try.prog w = .ok (.tuple #[bkC b, v]) w := by
  have hz := run_loadVar_mid (P := Try.prog) w g 0 36 (bkL b) _ (Blk_10.range hb) Try.underlying36 rfl (by rw [bkL_len]; exact sizeBk)
  rw [results_cell_tmp hr, hp, hu]
  simp [Result.andThen, asAddr, hz, bkC]
theorem litBk : (bkL bk0).toArray = #[.string ⟨#[]⟩, .bool false, .int .u8 0, .int .u8 0, .int .u8 0, .int .u8 0, .int .u8 0, .int .u8 0, .int .u8 0, .int .u8 0, .int .u8 0, .int .u8 0, .int .u8 0, .int .u8 0, .int .u8 0, .int .u8 0, .int .u8 0, .int .u8 0, .int .i64 0, .int .u8 0, .int .u8 0, .int .u8 0, .int .u8 0, .int .u8 0, .int .u8 0, .float .f64 0, .bool false] := rfl
set_option maxHeartbeats 4000000 in
theorem pfind_any {A : Option Addr} {n B : Nat} (c : Nat) {p : Pl} (hp : RightP p) (hn : n ≤ 1000000) (s : List UInt8) (w : World) (hB : B ≤ w.heap.size) (h : RdG eB w B A n p.l) :
    Calls Try.prog 21 #[.agg #[.int .i64 p.ver, .slice A n c], .string ⟨s.toArray⟩] w fun e w' => e = .returned (.tuple #[fndV (findB p.l s), .bool (findB p.l s).isSome]) ∧ Below w.heap.size w w' := by
  obtain ⟨v, hv⟩ : ∃ v, p.ver = v := ⟨_, rfl⟩
  rw [hv]
  obtain ⟨F, hF⟩ : ∃ F, findB p.l s = F := ⟨_, rfl⟩
  rw [hF]
  have HF := Lib.hid hF
  obtain ⟨Y, hY⟩ : ∃ Y, (w.alloc (.cells #[.int .i64 v, .slice A n c] 24)).alloc (.cells #[.string ⟨#[]⟩, .bool false, .int .u8 0, .int .u8 0, .int .u8 0, .int .u8 0, .int .u8 0, .int .u8 0, .int .u8 0, .int .u8 0, .int .u8 0, .int .u8 0, .int .u8 0, .int .u8 0, .int .u8 0, .int .u8 0, .int .u8 0, .int .u8 0, .int .i64 0, .int .u8 0, .int .u8 0, .int .u8 0, .int .u8 0, .int .u8 0, .int .u8 0, .float .f64 0, .bool false] 36) = Y := ⟨_, rfl⟩
  have hT0 : Blk (w.alloc (.cells #[.int .i64 v, .slice A n c] 24)) 24 w.heap.size [.int .i64 v, .slice A n c] := Blk_10.new w _ [.int .i64 v, .slice A n c]
  have hT : Blk Y 24 w.heap.size [.int .i64 v, .slice A n c] := by rw [← hY]; exact Blk_10.alloc hT0 _
  have hN : Blk Y 36 (w.heap.size + 1) (bkL bk0) := by
    have h9 := Blk_10.new (w.alloc (.cells #[.int .i64 v, .slice A n c] 24)) 36 (bkL bk0)
    rw [World.size_alloc, litBk, hY] at h9
    exact h9
  have hb0 : Below w.heap.size w Y := by rw [← hY]; exact ((Below.refl w.heap.size w).alloc (Nat.le_refl _) _).alloc (by rw [World.size_alloc]; omega) _
  have HX := Lib.hid (h.below (hb0.mono hB))
  have HBY := Lib.hid (Nat.le_trans hB hb0.size)
  have HS := Lib.hid (pplace_any c hp.rise hn s Y HBY.out HX.out)
  have HT := Lib.hid hT
  have HN := Lib.hid hN
  have HB := Lib.hid hb0
  have HNN := Lib.hid hn
  have HL := Lib.hid h.len
  have HRI := Lib.hid hp.rise
  have HLT := Lib.hid (Blk_10.lt hT)
  have HLT2 := Lib.hid (Blk_10.lt hN)
  have HY := Lib.hid hY
  have q1 : Y.cell? ⟨w.heap.size, 1, none⟩ = some (.slice A n c) := Blk_10.cell hT (i := 1) rfl
  clear hT0 hT hN hb0 hv h hp hn hB hY hF
  go_enter Try.func21, Try.ntmps21
  go_upto_region 1 with (fail)
  rw [HY.out]
  go_upto_region 2 with (go_at_call 40; refine HS.out.mono ?_; rintro e w5 ⟨i, f, rfl, hpl, hb5⟩; have HP := Lib.hid hpl; have HW5 := Lib.hid (HB.out.trans (hb5.mono HB.out.size)); have HN5 := Lib.hid (Blk_10.below HN.out HLT2.out hb5); have HX5 := Lib.hid (HX.out.below (hb5.mono HBY.out)); have q5 := (hb5.cell (p := ⟨w.heap.size, 1, none⟩) HLT.out).trans q1; clear hpl hb5 q1)
  cases f
  · have hno := HP.out.none HRI.out
    rw [HF.out] at hno
    subst hno
    clear q5
    go_wp2_with ((with_reducible show wpList _ _ _ (⟨none, .store _ _ _, _, _, _, _⟩ :: _) _ _); refine wpList_storeBA rfl _ _ _ rfl (w.heap.size + 1) (by rfl) (bkL bk0) (by rfl) (bkL bk0) HN5.out (by simp only [bkL_len]) (by rw [bkL_len]; exact sizeBk) (bkL_one _) ?_; intro w6 hb6 hg6; have H6 := Lib.hid hb6; have HW6 := Lib.hid (below_gb HW5.out hg6 (Nat.le_succ _) HW5.out.size); clear hb6 hg6)
    exact bodyPost_ret (results_bk (by rfl) _ _ (w.heap.size + 1) (by rfl) bk0 H6.out _ rfl) rfl ⟨rfl, HW6.out⟩
  · obtain ⟨x, hx, _, hf⟩ := HP.out.find HRI.out
    rw [HF.out] at hf
    subst hf
    have hin : i < n := by rw [← HL.out]; exact (List.getElem?_eq_some_iff.1 hx).1
    have h2 : (i : Int) < (n : Int) := by omega
    have hi0 : (0 : Int) ≤ (i : Int) := by omega
    have hi9 : i < 9223372036854775807 := by have := HNN.out; omega
    obtain ⟨b, off, rfl, _⟩ := HX.out.addr (by omega)
    have RX := Lib.hid (HX5.out.range hx)
    obtain ⟨LX, hLX⟩ : ∃ L, (bkL x).toArray = L := ⟨_, rfl⟩
    have HLX := Lib.hid hLX
    clear hLX hx hin
    go_wp2_with (first
      | ((with_reducible show wpList _ _ _ (⟨some 22, _, _, _, _, _⟩ :: _) _ _); refine wpList_loadBk (op := ⟨some 22, _, _, _, _, _⟩) _ rfl (by rfl) b (off + i * 27) (by rfl) x RX.out _ HLX.out ?_)
      | ((with_reducible show wpList _ _ _ (⟨none, .store _ _ _, _, _, _, _⟩ :: _) _ _); refine wpList_storeBA rfl _ _ _ rfl (w.heap.size + 1) (by rfl) (bkL x) (by rw [HLX.out]; rfl) (bkL bk0) HN5.out (by simp only [bkL_len]) (by rw [bkL_len]; exact sizeBk) (bkL_one _) ?_; intro w6 hb6 hg6; have H6 := Lib.hid hb6; have HW6 := Lib.hid (below_gb HW5.out hg6 (Nat.le_succ _) HW5.out.size); clear hb6 hg6))
    exact bodyPost_ret (results_bk (by rfl) _ _ (w.heap.size + 1) (by rfl) x H6.out _ rfl) rfl ⟨rfl, HW6.out⟩
end Go.Proofs.Ytajmppaodhpmgaa
