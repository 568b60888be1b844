/-
  The document's Shares.
-/
import Derived.Test.YtajmppaodhpmgaaURef7
namespace Go.Proofs.Ytajmppaodhpmgaa
set_option maxRecDepth 100000
open Go.RowKit Go.Lib

/-- What a backend's share is, some being down. -/
def shrB (ds : List (List UInt8)) (b : Bk) : Shr := ⟨b.nm, if b.dr = true ∨ b.nm ∈ ds then 0 else (quW b.wt : Int)⟩
theorem shrB_zero {ds : List (List UInt8)} {b : Bk} (h : b.dr = true ∨ b.nm ∈ ds) : shrB ds b = ⟨b.nm, 0⟩ := by unfold shrB; rw [if_pos h]
theorem shrB_full {ds : List (List UInt8)} {b : Bk} (h1 : b.dr = false) (h2 : b.nm ∉ ds) : shrB ds b = ⟨b.nm, quW b.wt⟩ := by
  unfold shrB
  rw [if_neg (by rintro (h | h); rw [h1] at h; cases h; exact h2 h)]
def sharesL (ds : List (List UInt8)) (l : List Bk) : List Shr := l.map (shrB ds)
theorem shares_succ {ds : List (List UInt8)} {l : List Bk} {k : Nat} {x : Bk} (hx : l[k]? = some x) : sharesL ds (l.take (k + 1)) = sharesL ds (l.take k) ++ [shrB ds x] := by
  unfold sharesL
  rw [List.take_add_one, hx]
  simp
/-- A whole backend loaded out of a slice. -/
theorem wpList_loadBk {w : World} {ops : Array Oper} {rest : List Oper} {op : Oper} {a : Act} {Q : Exit → Act → World → Prop} (x : Operand) (ho : op.op = .load 36 x) (hw : Region.wanted op (yielded ops a.tmps) = true)
    (g o : Nat) (hx : a.eval x = .pointer (some ⟨g, o, none⟩)) (b : Bk) (hb : w.rangeAt g o (bkL b)) (C : Array Value) (hC : (bkL b).toArray = C)
    (hk : wpList Try.prog ops Q rest (a.put op.dst (.agg C)) w) : wpList Try.prog ops Q (op :: rest) a w := by
  subst hC
  exact BigFrame.wpList_want hw fun _ hK => wp_load_mid 36 x ho g o hx (bkL b) _ hb Try.underlying36 rfl (by rw [bkL_len]; exact sizeBk) (hK _ _ hk)
set_option maxHeartbeats 8000000 in
theorem rshares18_any {A A2 : Option Addr} {n n2 B : Nat} (c c2 : Nat) {l : List Bk} {ds : List (List UInt8)} (hn : n ≤ 1000000) (hn2 : n2 ≤ 1000000) (v : Int) (w : World) (hB : B ≤ w.heap.size) (h : RdG eB w B A n l) (h2 : RdG eN w B A2 n2 ds) :
    Calls Try.prog 24 #[.agg #[.int .i64 v, .slice A n c], .slice A2 n2 c2] w fun e w' => ∃ r, e = .returned r ∧ OwnG eS w' w.heap.size r (sharesL ds l) ∧ Below w.heap.size w w' := by
  obtain ⟨Y, hY⟩ : ∃ Y, w.alloc (.cells #[.int .i64 v, .slice A n c] 24) = Y := ⟨_, rfl⟩
  have HT := Lib.hid (show Blk Y 24 w.heap.size [.int .i64 v, .slice A n c] by rw [← hY]; exact Blk_10.new w _ [.int .i64 v, .slice A n c])
  have hB0 : Below w.heap.size w Y := by rw [← hY]; exact (Below.refl w.heap.size w).alloc (Nat.le_refl _) _
  have HB := Lib.hid hB0
  have HX := Lib.hid (h.below (hB0.mono hB))
  have HD := Lib.hid (h2.below (hB0.mono hB))
  have HBB := Lib.hid (Nat.le_trans hB hB0.size)
  have HLT := Lib.hid (Blk_10.lt HT.out)
  have HL := Lib.hid h.len
  have HY := Lib.hid hY
  clear h h2 hY hB hB0
  go_enter Try.func24, Try.ntmps24
  go_upto_region 1 with (fail)
  rw [HY.out]
  go_wp2_with fail
  go_loopw [5, 6] (fun t i wr => ∃ k : Nat, k ≤ n ∧ i = .int .i64 (k : Int) ∧ OwnG eS wr Y.heap.size t (sharesL ds (l.take k)) ∧ Below Y.heap.size Y wr) (fun _ i _ => n - (intOf i).toNat)
  case atStart => exact ⟨0, Nat.zero_le _, rfl, OwnG.nil_ eS _ _, Below.refl _ _⟩
  case round =>
    obtain ⟨k, hk, rfl, hown, hw⟩ := hrel
    have HW := Lib.hid hw
    have a1 : wr.cell? ⟨w.heap.size, 1, none⟩ = some (.slice A n c) := (hw.cell (p := ⟨w.heap.size, 1, none⟩) HLT.out).trans (Blk_10.cell HT.out (i := 1) rfl)
    clear hw
    by_cases hlt : k < n
    · have h1 : (k : Int) < (n : Int) := by omega
      have h0 : (0 : Int) ≤ (k : Int) := by omega
      obtain ⟨b, off, rfl, _⟩ := HX.out.addr (by omega)
      obtain ⟨x, hx⟩ : ∃ x, l[k]? = some x := ⟨_, List.getElem?_eq_getElem (by rw [HL.out]; exact hlt)⟩
      have RX := Lib.hid ((HX.out.below (HW.out.mono HBB.out)).range hx)
      have HU := Lib.hid (shares_succ (ds := ds) hx)
      obtain ⟨LX, hLX⟩ : ∃ L, (bkL x).toArray = L := ⟨_, rfl⟩
      have HLX := Lib.hid hLX
      have HO := Lib.hid hown
      have HLTN := Lib.hid hlt
      have HLK : Hid ((sharesL ds (l.take k)).length + 1 ≤ 100000000) := Lib.hid (by unfold sharesL; rw [List.length_map, List.length_take]; omega)
      have hk9 : k < 9223372036854775807 := by omega
      clear hLX hx hlt hown
      go_upto_region 6 with (first
        | ((with_reducible show wpList _ _ _ (⟨some 21, _, _, _, _, _⟩ :: _) _ _); refine wpList_loadBk (op := ⟨some 21, _, _, _, _, _⟩) _ rfl (by rfl) b (off + k * 27) (by rfl) x RX.out _ HLX.out ?_)
        | ((with_reducible show wpList _ _ _ (⟨none, _, _, _, _, _⟩ :: _) _ _); refine wpList_storeNewG rfl 36 _ _ rfl (by rfl) (bkL x) (by rw [HLX.out]; rfl) (by rw [bkL_len]; rfl) (by rw [bkL_len]; exact sizeBk) (bkL_one x) ?_; intro w3 hb3 hB3 hz3))
      have d4 := Blk_10.cell hb3 (bk_wt x)
      have d5 := Blk_10.cell hb3 (bk_dr x)
      have d0 : w3.cell? ⟨wr.heap.size, 0, none⟩ = some (.string ⟨x.nm.toArray⟩) := Blk_10.cell hb3 (bk_nm x)
      have HB3 := Lib.hid (HW.out.trans (hB3.mono HW.out.size))
      have HO3 := Lib.hid (HO.out.below hB3)
      have HQ := Lib.hid (rqu_any x.hw w3)
      have HH := Lib.hid (rhas_any c2 (by omega) x.nm w3 (HD.out.below (HB3.out.mono HBB.out)))
      clear hb3 hB3 hz3
      obtain ⟨dr, hdr⟩ : ∃ d, x.dr = d := ⟨_, rfl⟩
      obtain ⟨q, hq⟩ : ∃ q, quW x.wt = q := ⟨_, rfl⟩
      obtain ⟨u, hu⟩ : ∃ u, x.wt = u := ⟨_, rfl⟩
      have HDR := Lib.hid hdr
      have HQQ := Lib.hid hq
      rw [hdr] at d5
      rw [hq, hu] at HQ
      rw [hu] at d4
      clear hdr hq hu
      cases dr
      · by_cases hm : x.nm ∈ ds
        · have HE := Lib.hid (shrB_zero (ds := ds) (b := x) (Or.inr hm))
          rw [decide_eq_true hm] at HH
          clear hm
          go_wp2_with fail
          refine HQ.out.mono ?_
          rintro e w8 ⟨rfl, h8⟩
          obtain rfl := h8
          go_wp2_with fail
          refine HH.out.mono ?_
          rintro e w9 ⟨rfl, h9⟩
          obtain rfl := h9.symm
          go_wp2_with (at_builtin; refine wpList_appendG eS rfl _ _ rfl Y.heap.size _ _ (by rfl) (HO3.out.alloc _) (w3.heap.size + 1) _ 1 1 [⟨x.nm, 0⟩] (by rfl) (RdG.laid eS w3 [⟨x.nm, 0⟩] 1 rfl _ rfl) HLK.out (by simp; exact Nat.le_succ_of_le HB3.out.size) ?_; intro v' w5 ho5 hg5 _; have hb5 := Lib.hid ((HB3.out.alloc HB3.out.size (.cells #[.string ⟨x.nm.toArray⟩, .int .i64 (0)] 56)).grown hg5 (by simp; exact Nat.le_succ_of_le HB3.out.size) HO3.out.lt); have ho6 := Lib.hid ho5; clear ho5 hg5)
          refine ⟨⟨k + 1, HLTN.out, by go_num, by rw [HU.out, HE.out]; exact ho6.out, hb5.out⟩, ?_⟩
          have := HLTN.out
          simp [intOf]
          omega
        · have HE := Lib.hid (shrB_full (ds := ds) (b := x) HDR.out hm)
          rw [HQQ.out] at HE
          rw [decide_eq_false hm] at HH
          clear hm
          go_wp2_with fail
          refine HQ.out.mono ?_
          rintro e w8 ⟨rfl, h8⟩
          obtain rfl := h8
          go_wp2_with fail
          refine HH.out.mono ?_
          rintro e w9 ⟨rfl, h9⟩
          obtain rfl := h9.symm
          go_wp2_with (at_builtin; refine wpList_appendG eS rfl _ _ rfl Y.heap.size _ _ (by rfl) (HO3.out.alloc _) (w3.heap.size + 1) _ 1 1 [⟨x.nm, (q : Int)⟩] (by rfl) (RdG.laid eS w3 [⟨x.nm, (q : Int)⟩] 1 rfl _ rfl) HLK.out (by simp; exact Nat.le_succ_of_le HB3.out.size) ?_; intro v' w5 ho5 hg5 _; have hb5 := Lib.hid ((HB3.out.alloc HB3.out.size (.cells #[.string ⟨x.nm.toArray⟩, .int .i64 ((q : Int))] 56)).grown hg5 (by simp; exact Nat.le_succ_of_le HB3.out.size) HO3.out.lt); have ho6 := Lib.hid ho5; clear ho5 hg5)
          refine ⟨⟨k + 1, HLTN.out, by go_num, by rw [HU.out, HE.out]; exact ho6.out, hb5.out⟩, ?_⟩
          have := HLTN.out
          simp [intOf]
          omega
      · have HE := Lib.hid (shrB_zero (ds := ds) (b := x) (Or.inl HDR.out))
        go_wp2_with fail
        refine HQ.out.mono ?_
        rintro e w8 ⟨rfl, h8⟩
        obtain rfl := h8
        go_wp2_with (at_builtin; refine wpList_appendG eS rfl _ _ rfl Y.heap.size _ _ (by rfl) (HO3.out.alloc _) (w3.heap.size + 1) _ 1 1 [⟨x.nm, 0⟩] (by rfl) (RdG.laid eS w3 [⟨x.nm, 0⟩] 1 rfl _ rfl) HLK.out (by simp; exact Nat.le_succ_of_le HB3.out.size) ?_; intro v' w5 ho5 hg5 _; have hb5 := Lib.hid ((HB3.out.alloc HB3.out.size (.cells #[.string ⟨x.nm.toArray⟩, .int .i64 (0)] 56)).grown hg5 (by simp; exact Nat.le_succ_of_le HB3.out.size) HO3.out.lt); have ho6 := Lib.hid ho5; clear ho5 hg5)
        refine ⟨⟨k + 1, HLTN.out, by go_num, by rw [HU.out, HE.out]; exact ho6.out, hb5.out⟩, ?_⟩
        have := HLTN.out
        simp [intOf]
        omega
    · obtain rfl : n = k := by omega
      have h1 : ¬ (n : Int) < (n : Int) := by omega
      have HO := Lib.hid hown
      clear hown hlt
      go_wp2_with fail
      go_ret
      refine ⟨_, rfl, ?_, HB.out.trans (HW.out.mono HB.out.size)⟩
      have ho := HO.out
      rw [List.take_of_length_le (Nat.le_of_eq HL.out)] at ho
      exact ho.base_le HB.out.size
end Go.Proofs.Ytajmppaodhpmgaa
