/-
  The document's Net.
-/
import Derived.Test.YtomkfcpellcncaaTWrap
import Derived.Deep.DeepCutAuto
namespace Go.Proofs.Ytomkfcpellcncaa
set_option maxRecDepth 100000
open Go.RowKit Go.Lib

theorem results_tmp5 {fn : Func} {a b c d e : Tmp} (h : fn.results = #[.tmp a, .tmp b, .tmp c, .tmp d, .tmp e]) (tmps : Array Value) (P : Program) (w : World) :
    (results fn tmps).run P w = .ok (.tuple #[tmps.getD a undef, tmps.getD b undef, tmps.getD c undef, tmps.getD d undef, tmps.getD e undef]) w := by
  simp [results, h]
/-- What the document's Net answers. -/
def ntV (n : Nt) : Value := .tuple #[.int .i64 (n.head : Int), .int .i64 (n.total : Int), .int .i64 (n.proto : Int), .bool n.frag, .bool (decide (n.e = 0))]
set_option maxHeartbeats 1000000 in
theorem rnet_x (k : Int) (h4 : k ≠ 2048) (h6 : k ≠ 34525) (A : Option Addr) (len cap : Nat) (w : World) : Calls Try.prog 16 #[.int .i64 k, .slice A len cap] w fun e w' => e = .returned (ntV (ntNo 3)) ∧ Below w.heap.size w w' := by
  have b4 : (k == 2048) = false := beq_eq_false_iff_ne.2 h4
  have b6 : (k == 34525) = false := beq_eq_false_iff_ne.2 h6
  clear h4 h6
  go_enter Try.func16, Try.ntmps16
  go_wp2_with fail
  refine bodyPost_ret (results_tmp5 rfl _ _ _) rfl ?_
  exact ⟨rfl, Below.refl _ _⟩

set_option maxHeartbeats 4000000 in
theorem rnet_4 (A : Option Addr) (len cap : Nat) (xs : List UInt8) (hlen : len ≤ 100000) (hcap : len ≤ cap) (w : World) (hI : Rd w w.heap.size A len xs) :
    Calls Try.prog 16 #[.int .i64 2048, .slice A len cap] w fun e w' => e = .returned (ntV (nt4 xs)) ∧ Below w.heap.size w w' := by
  have HR := Lib.hid (rread_any_8 A len cap xs hlen hcap w hI)
  unfold ReadGave_8 at HR
  have HNF := Lib.hid (nt4_fr xs)
  have HFO := Lib.hid (rdF_ok xs)
  have NE := Lib.hid (nt4_e xs)
  unfold ntV
  obtain ⟨n, hn⟩ : ∃ n, nt4 xs = n := ⟨_, rfl⟩
  obtain ⟨f, hf⟩ : ∃ f, rdF xs = f := ⟨_, rfl⟩
  obtain ⟨E2, hE2⟩ : ∃ E, faultN xs = E := ⟨_, rfl⟩
  rw [hn] at HNF NE ⊢
  rw [hf] at HR HNF HFO
  rw [hE2] at HR NE
  obtain ⟨b, hb⟩ : ∃ b, decide (n.e = 0) = b := ⟨_, rfl⟩
  rw [hb]
  rw [NE.out] at hb
  have HBV := Lib.hid (show ((E2 : Int) == 0) = b ∧ (E2 == 0) = b from by
    rw [← hb]
    by_cases h : E2 = 0
    · subst h; exact ⟨rfl, rfl⟩
    · exact ⟨by rw [decide_eq_false h]; exact beq_eq_false_iff_ne.2 (by omega), by rw [decide_eq_false h]; exact beq_eq_false_iff_ne.2 h⟩)
  have C0' := Lib.hid (fun (G : Nat) (W : World) (h : Blk W 68 G (frL_8 f)) => show W.cell? ⟨G, 0, none⟩ = some (.int .i64 (n.head : Int)) ∧ W.cell? ⟨G, 1, none⟩ = some (.int .i64 (n.total : Int)) ∧ W.cell? ⟨G, 7, none⟩ = some (.int .i64 (n.proto : Int)) ∧ W.cell? ⟨G, 4, none⟩ = some (.bool n.frag) by
    obtain ⟨q1, q2, q3, q4, _⟩ := HNF.out
    rw [← q1, ← q2, ← q3, ← q4]
    exact ⟨Blk_10.cell h rfl, Blk_10.cell h rfl, Blk_10.cell h rfl, Blk_10.cell h rfl⟩)
  clear hI hn hf hE2 hb
  go_enter Try.func16, Try.ntmps16
  go_wp2_with fail
  refine HR.out.mono ?_
  rintro e w4 ⟨rfl, hb4⟩
  have HB4 := Lib.hid hb4
  clear hb4
  go_upto_region 3 with (((with_reducible show wpList _ _ _ (⟨none, .store 68 (.tmp 9) (.tmp 18), _, _, _, _⟩ :: _) _ _); refine wpList_storeNewG (op := ⟨none, .store 68 (.tmp 9) (.tmp 18), _, _, _, _⟩) rfl 68 _ _ rfl (by rfl) (frL_8 f) (by rfl) (by rw [frL_len_8 HFO.out]; rfl) (sizeFrL_8 HFO.out) (frL_one_8 _) ?_; intro w5 hf5 hb5 hz5; clear hz5; have HB5 := Lib.hid (HB4.out.trans (hb5.mono HB4.out.size)); have HF5 := Lib.hid hf5; clear hf5 hb5; generalize w4.heap.size = G at HF5 ⊢))
  have C0 := Lib.hid (C0'.out G)
  have hbv := HBV.out
  refine wp_region_held_drew (S := fun W => Below w.heap.size w W ∧ Blk W 68 G (frL_8 f)) (by kernel_rfl) (⟨HB5.out.drew, Blk_10.drew HF5.out⟩) (fun hHeld => ?_)
  obtain ⟨X, hX⟩ : ∃ X, w5.drew = X := ⟨_, rfl⟩
  rw [hX] at hHeld ⊢
  clear hX
  refine tk 0 20 (.pointer (some ⟨G, 0, none⟩)) rfl hHeld ?_
  simp only [Act.put, sA, sZ, sS]
  refine tkY 1 21 (.int .i64 (n.head : Int)) rfl (Or.inl ⟨by rfl, fun W hW => by have hc := (C0.out W hW.2).1; go_simp⟩) hHeld ?_
  simp only [Act.put, sA, sZ, sS]
  refine tk 2 22 (.pointer (some ⟨G, 1, none⟩)) rfl hHeld ?_
  simp only [Act.put, sA, sZ, sS]
  refine tkY 3 23 (.int .i64 (n.total : Int)) rfl (Or.inl ⟨by rfl, fun W hW => by have hc := (C0.out W hW.2).2.1; go_simp⟩) hHeld ?_
  simp only [Act.put, sA, sZ, sS]
  refine tk 4 24 (.pointer (some ⟨G, 7, none⟩)) rfl hHeld ?_
  simp only [Act.put, sA, sZ, sS]
  refine tkY 5 25 (.int .i64 (n.proto : Int)) rfl (Or.inl ⟨by rfl, fun W hW => by have hc := (C0.out W hW.2).2.2.1; go_simp⟩) hHeld ?_
  simp only [Act.put, sA, sZ, sS]
  refine tk 6 26 (.pointer (some ⟨G, 4, none⟩)) rfl hHeld ?_
  simp only [Act.put, sA, sZ, sS]
  refine tkY 7 27 (.bool n.frag) rfl (Or.inl ⟨by rfl, fun W hW => by have hc := (C0.out W hW.2).2.2.2; go_simp⟩) hHeld ?_
  simp only [Act.put, sA, sZ, sS]
  refine tk 8 28 (.int .i64 (E2 : Int)) rfl hHeld ?_
  simp only [Act.put, sA, sZ, sS]
  refine tkY 9 29 (.bool b) rfl (Or.inl ⟨by rfl, fun W _ => by have h1 := HBV.out.1; have h2 := HBV.out.2; go_simp⟩) hHeld ?_
  simp only [Act.put, sA, sZ, sS]
  refine tk 10 4 (.int .i64 (n.head : Int)) rfl hHeld ?_
  simp only [Act.put, sA, sZ, sS]
  refine tk 11 5 (.int .i64 (n.total : Int)) rfl hHeld ?_
  simp only [Act.put, sA, sZ, sS]
  refine tk 12 6 (.int .i64 (n.proto : Int)) rfl hHeld ?_
  simp only [Act.put, sA, sZ, sS]
  refine tk 13 7 (.bool n.frag) rfl hHeld ?_
  simp only [Act.put, sA, sZ, sS]
  refine tk 14 8 (.bool b) rfl hHeld ?_
  simp only [Act.put, sA, sZ, sS]
  refine wpAnyH_done (by kernel_rfl) ?_ _
  go_wp2_with fail
  refine bodyPost_ret (results_tmp5 rfl _ _ _) rfl ?_
  exact ⟨rfl, hHeld.1⟩

set_option maxHeartbeats 4000000 in
theorem rnet_6 (A : Option Addr) (len cap : Nat) (xs : List UInt8) (hlen : len ≤ 100000) (w : World) (hI : Rd w w.heap.size A len xs) :
    Calls Try.prog 16 #[.int .i64 34525, .slice A len cap] w fun e w' => e = .returned (ntV (nt6 xs)) ∧ Below w.heap.size w w' := by
  have HR := Lib.hid (rread_any_9 A len cap xs (by omega) w hI)
  unfold ReadGave_9 at HR
  have HNF := Lib.hid (nt6_fr xs)
  have HFO := Lib.hid (rdF_ok_9 xs)
  have NE := Lib.hid (nt6_e xs)
  unfold ntV
  obtain ⟨n, hn⟩ : ∃ n, nt6 xs = n := ⟨_, rfl⟩
  obtain ⟨f, hf⟩ : ∃ f, rdF_9 xs = f := ⟨_, rfl⟩
  obtain ⟨E2, hE2⟩ : ∃ E, rdN xs = E := ⟨_, rfl⟩
  rw [hn] at HNF NE ⊢
  rw [hf] at HR HNF HFO
  rw [hE2] at HR NE
  obtain ⟨b, hb⟩ : ∃ b, decide (n.e = 0) = b := ⟨_, rfl⟩
  rw [hb]
  rw [NE.out] at hb
  have HBV := Lib.hid (show ((E2 : Int) == 0) = b ∧ (E2 == 0) = b from by
    rw [← hb]
    by_cases h : E2 = 0
    · subst h; exact ⟨rfl, rfl⟩
    · exact ⟨by rw [decide_eq_false h]; exact beq_eq_false_iff_ne.2 (by omega), by rw [decide_eq_false h]; exact beq_eq_false_iff_ne.2 h⟩)
  have C0' := Lib.hid (fun (G : Nat) (W : World) (h : Blk W 65 G (frL_9 f)) => show W.cell? ⟨G, 0, none⟩ = some (.int .i64 (n.head : Int)) ∧ W.cell? ⟨G, 1, none⟩ = some (.int .i64 (n.total : Int)) ∧ W.cell? ⟨G, 5, none⟩ = some (.int .i64 (n.proto : Int)) ∧ W.cell? ⟨G, 3, none⟩ = some (.bool n.frag) by
    obtain ⟨q1, q2, q3, q4, _⟩ := HNF.out
    rw [← q1, ← q2, ← q3, ← q4]
    exact ⟨Blk_10.cell h rfl, Blk_10.cell h rfl, Blk_10.cell h rfl, Blk_10.cell h rfl⟩)
  clear hI hn hf hE2 hb
  go_enter Try.func16, Try.ntmps16
  go_wp2_with fail
  refine HR.out.mono ?_
  rintro e w4 ⟨rfl, hb4⟩
  have HB4 := Lib.hid hb4
  clear hb4
  go_upto_region 6 with (((with_reducible show wpList _ _ _ (⟨none, .store 65 (.tmp 11) (.tmp 35), _, _, _, _⟩ :: _) _ _); refine wpList_storeNewG (op := ⟨none, .store 65 (.tmp 11) (.tmp 35), _, _, _, _⟩) rfl 65 _ _ rfl (by rfl) (frL_9 f) (by rfl) (by rw [frL_len_9 HFO.out]; rfl) (sizeFrL_9 HFO.out) (frL_one_9 _) ?_; intro w5 hf5 hb5 hz5; clear hz5; have HB5 := Lib.hid (HB4.out.trans (hb5.mono HB4.out.size)); have HF5 := Lib.hid hf5; clear hf5 hb5; generalize w4.heap.size = G at HF5 ⊢))
  have C0 := Lib.hid (C0'.out G)
  have hbv := HBV.out
  refine wp_region_held_drew (S := fun W => Below w.heap.size w W ∧ Blk W 65 G (frL_9 f)) (by kernel_rfl) (⟨HB5.out.drew, Blk_10.drew HF5.out⟩) (fun hHeld => ?_)
  obtain ⟨X, hX⟩ : ∃ X, w5.drew = X := ⟨_, rfl⟩
  rw [hX] at hHeld ⊢
  clear hX
  refine tk 0 37 (.pointer (some ⟨G, 0, none⟩)) rfl hHeld ?_
  simp only [Act.put, sA, sZ, sS]
  refine tkY 1 38 (.int .i64 (n.head : Int)) rfl (Or.inl ⟨by rfl, fun W hW => by have hc := (C0.out W hW.2).1; go_simp⟩) hHeld ?_
  simp only [Act.put, sA, sZ, sS]
  refine tk 2 39 (.pointer (some ⟨G, 1, none⟩)) rfl hHeld ?_
  simp only [Act.put, sA, sZ, sS]
  refine tkY 3 40 (.int .i64 (n.total : Int)) rfl (Or.inl ⟨by rfl, fun W hW => by have hc := (C0.out W hW.2).2.1; go_simp⟩) hHeld ?_
  simp only [Act.put, sA, sZ, sS]
  refine tk 4 41 (.pointer (some ⟨G, 5, none⟩)) rfl hHeld ?_
  simp only [Act.put, sA, sZ, sS]
  refine tkY 5 42 (.int .i64 (n.proto : Int)) rfl (Or.inl ⟨by rfl, fun W hW => by have hc := (C0.out W hW.2).2.2.1; go_simp⟩) hHeld ?_
  simp only [Act.put, sA, sZ, sS]
  refine tk 6 43 (.pointer (some ⟨G, 3, none⟩)) rfl hHeld ?_
  simp only [Act.put, sA, sZ, sS]
  refine tkY 7 44 (.bool n.frag) rfl (Or.inl ⟨by rfl, fun W hW => by have hc := (C0.out W hW.2).2.2.2; go_simp⟩) hHeld ?_
  simp only [Act.put, sA, sZ, sS]
  refine tk 8 45 (.int .i64 (E2 : Int)) rfl hHeld ?_
  simp only [Act.put, sA, sZ, sS]
  refine tkY 9 46 (.bool b) rfl (Or.inl ⟨by rfl, fun W _ => by have h1 := HBV.out.1; have h2 := HBV.out.2; go_simp⟩) hHeld ?_
  simp only [Act.put, sA, sZ, sS]
  refine tk 10 4 (.int .i64 (n.head : Int)) rfl hHeld ?_
  simp only [Act.put, sA, sZ, sS]
  refine tk 11 5 (.int .i64 (n.total : Int)) rfl hHeld ?_
  simp only [Act.put, sA, sZ, sS]
  refine tk 12 6 (.int .i64 (n.proto : Int)) rfl hHeld ?_
  simp only [Act.put, sA, sZ, sS]
  refine tk 13 7 (.bool n.frag) rfl hHeld ?_
  simp only [Act.put, sA, sZ, sS]
  refine tk 14 8 (.bool b) rfl hHeld ?_
  simp only [Act.put, sA, sZ, sS]
  refine wpAnyH_done (by kernel_rfl) ?_ _
  go_wp2_with fail
  refine bodyPost_ret (results_tmp5 rfl _ _ _) rfl ?_
  exact ⟨rfl, hHeld.1⟩

theorem rnet_any (k : Int) (A : Option Addr) (len cap : Nat) (xs : List UInt8) (hlen : len ≤ 100000) (hcap : len ≤ cap) (w : World) (hI : Rd w w.heap.size A len xs) :
    Calls Try.prog 16 #[.int .i64 k, .slice A len cap] w fun e w' => e = .returned (ntV (ntK k xs)) ∧ Below w.heap.size w w' := by
  by_cases h4 : k = 2048
  · subst h4; rw [ntK_4]; exact rnet_4 A len cap xs hlen hcap w hI
  · by_cases h6 : k = 34525
    · subst h6; rw [ntK_6]; exact rnet_6 A len cap xs hlen w hI
    · rw [ntK_x h4 h6]; exact rnet_x k h4 h6 A len cap w
end Go.Proofs.Ytomkfcpellcncaa
