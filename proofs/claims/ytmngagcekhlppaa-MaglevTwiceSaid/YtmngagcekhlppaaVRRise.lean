/-
  The document's Rising.
-/
import Derived.Test.YtmngagcekhlppaaVPick
import Derived.Test.YtmngagcekhlppaaTK
namespace Go.Proofs.Ytmngagcekhlppaa
set_option maxRecDepth 100000
open Go.RowKit Go.Lib

def upR (l : List Shr) (k : Nat) : List Shr := (l.take k).foldl riseF []
theorem upR_zero (l : List Shr) : upR l 0 = [] := rfl
theorem upR_succ {l : List Shr} {k : Nat} {x : Shr} (hx : l[k]? = some x) : upR l (k + 1) = riseF (upR l k) x := by
  unfold upR
  rw [List.take_add_one, hx, List.foldl_append]
  rfl
theorem upR_all (l : List Shr) : upR l l.length = riseL l := by
  unfold upR riseL
  rw [List.take_length]
theorem upR_len (l : List Shr) (k : Nat) : (upR l k).length ≤ k := by
  have h1 := (riseF_perm (l.take k) []).length_eq
  have h2 := List.length_filter_le (fun x : Shr => decide (x.q ≠ 0)) (l.take k)
  have h3 := List.length_take_le k l
  unfold upR
  rw [h1]
  simp only [List.nil_append]
  omega
theorem cut_ri {goal : Prop} {H : World → Value → Nat → Prop} {M : World → Nat → Value → Nat → Prop} (h1 : (∀ W g v b, H W v b → M W g v b) → goal) (h2 : ∀ W g v b, H W v b → M W g v b) : goal := h1 h2
theorem share_size : (Try.prog.info? 48).map (·.size) = some 2 := by kernel_rfl
theorem rd_blk {W : World} {b : Nat} {x : Shr} (h : Blk W 48 b (eS.f x)) : RdG eS W W.heap.size (some ⟨b, 0, none⟩) 1 [x] :=
  ⟨rfl, fun _ => ⟨b, 0, rfl, Blk_10.lt h, fun j u hu => by
    rw [Nat.zero_add]
    refine Blk_10.cell h ?_
    have e : eS.cells [x] = eS.f x := List.append_nil _
    rw [← e]
    exact hu⟩⟩
theorem rd_rest {W : World} {B l m : Nat} {A : Option Addr} {xs : List Shr} (c : Nat) (h : RdG eS W B A l xs) (hm : m ≤ l) (hc : l ≤ c) : RdG eS W B (if c = m then A else A.map fun a => a.add (m * 2)) (l - m) (xs.drop m) := by
  rcases Nat.eq_zero_or_pos (l - m) with h0 | h0
  · rw [h0]
    have e : xs.drop m = [] := List.drop_eq_nil_of_le (by rw [h.len]; omega)
    rw [e]
    exact RdG.nil_ _
  · have h1 := h.part (l := m) (m := l - m) (by omega) h0
    rw [if_neg (by omega)]
    rwa [List.take_of_length_le (by rw [List.length_drop, h.len]; omega)] at h1
set_option maxHeartbeats 16000000 in
theorem rrise_any {B n : Nat} {A : Option Addr} (c : Nat) {xs : List Shr} (hn : n ≤ 1024) (w : World) (hB : B ≤ w.heap.size) (h : RdG eS w B A n xs) :
    Calls Try.prog 20 #[.slice A n c] w fun e w' => ∃ v, e = .returned v ∧ OwnG eS w' w.heap.size v (riseL xs) ∧ Below w.heap.size w w' := by
  have HR := Lib.hid h
  have HBB := Lib.hid hB
  clear h hB
  go_enter Try.func20, Try.ntmps20
  go_wp2_with fail
  go_loopw [3, 4] (fun v i wr => ∃ k : Nat, k ≤ n ∧ i = .int .i64 (k : Int) ∧ OwnG eS wr w.heap.size v (upR xs k) ∧ Below w.heap.size w wr)
    (fun _ i _ => n - (intOf i).toNat)
  case atStart => exact ⟨0, Nat.zero_le _, rfl, OwnG.nil_ eS _ _, Below.refl _ _⟩
  case round =>
    obtain ⟨k, hk, rfl, hown, hbel⟩ := hrel
    obtain ⟨wo, hwo⟩ : ∃ z, z = wr := ⟨_, rfl⟩
    subst hwo
    have HO := Lib.hid hown
    have HBE := Lib.hid hbel
    clear hown hbel
    by_cases hlt : k < n
    · have h1 : (k : Int) < (n : Int) := by omega
      have h0 : (0 : Int) ≤ (k : Int) := by omega
      have hk4 : k < 1024 := by omega
      obtain ⟨b, off, rfl, hbB⟩ := HR.out.addr (by omega)
      obtain ⟨x, hx⟩ : ∃ x, xs[k]? = some x := ⟨_, List.getElem?_eq_getElem (by rw [HR.out.len]; exact hlt)⟩
      have hcell : ∀ p : Addr, p.block < B → wo.cell? p = w.cell? p := fun p hp => HBE.out.cell (Nat.lt_of_lt_of_le hp HBB.out)
      have c1 := (hcell ⟨b, off + k * 2 + 1, none⟩ hbB).trans (HR.out.quanta hx)
      have HX := Lib.hid hx
      have HLT := Lib.hid hlt
      have HBL := Lib.hid hbB
      have HN := Lib.hid hn
      have HUP := Lib.hid (upR_succ hx)
      have HUL := Lib.hid (upR_len xs k)
      clear hcell hx hlt hk hn hbB
      by_cases hq : x.q = 0
      · rw [hq] at c1
        have HE : Hid (upR xs (k + 1) = upR xs k) := Lib.hid (by rw [HUP.out]; unfold riseF; rw [if_pos hq])
        clear hq
        go_wp2_with fail
        go_roundw
        case rel => exact ⟨k + 1, HLT.out, by go_num, by rw [HE.out]; exact HO.out, HBE.out⟩
        case measure =>
          have := HLT.out
          simp [intOf]
          omega
      · have hq2 : (x.q == 0) = false := beq_eq_false_iff_ne.2 hq
        have HE : Hid (upR xs (k + 1) = insS x (upR xs k)) := Lib.hid (by rw [HUP.out]; unfold riseF; rw [if_neg hq])
        clear hq
        obtain ⟨A', l, c', rfl, hl, hlc, hcm, hrd, hgg⟩ := HO.out.sl
        have HL := Lib.hid hl
        have hl4 : l < 1024 := by have := HUL.out; omega
        have HRD := Lib.hid hrd
        have HGG := Lib.hid hgg
        have HCM := Lib.hid hcm
        clear hl hrd hgg hcm HUP HUL
        go_wp2_with fail
        clear c1 hq2
        go_loopw [5] (fun i wr => ∃ m : Nat, m ≤ l ∧ i = .int .i64 (m : Int) ∧ Hid (∀ j y, j < m → (upR xs k)[j]? = some y → Op.bytesLess y.nm x.nm = true) ∧ Below w.heap.size w wr ∧ wr.heap = wo.heap)
          (fun i _ => l - (intOf i).toNat)
        case atStart => exact ⟨0, Nat.zero_le _, rfl, Lib.hid (fun j y hj _ => absurd hj (by omega)), HBE.out, rfl⟩
        case round =>
          obtain ⟨m, hml, rfl, HM, hbel, hheap⟩ := hrel
          have h2 : (0 : Int) ≤ (m : Int) := by omega
          by_cases hm : m < l
          · have h3 : (m : Int) < (l : Int) := by omega
            obtain ⟨g, rfl, hg1, hg2⟩ := HGG.out (by omega)
            obtain ⟨y, hy⟩ : ∃ y, (upR xs k)[m]? = some y := ⟨_, List.getElem?_eq_getElem (by rw [← HL.out]; exact hm)⟩
            have ec : ∀ p : Addr, wr.cell? p = wo.cell? p := fun p => by unfold World.cell?; rw [hheap]
            have hcell : ∀ p : Addr, p.block < B → wo.cell? p = w.cell? p := fun p hp => HBE.out.cell (Nat.lt_of_lt_of_le hp HBB.out)
            have c1 := (ec _).trans (HRD.out.name hy)
            have c2 := (ec _).trans ((hcell ⟨b, off + k * 2, none⟩ HBL.out).trans (HR.out.name HX.out))
            rw [Nat.zero_add] at c1
            clear ec hcell
            have HY := Lib.hid hy
            clear hy
            by_cases hs : Op.bytesLess y.nm x.nm = true
            · have HS := Lib.hid hs
              have HBR := Lib.hid hbel
              have HHW := Lib.hid hheap
              have HM3 := Lib.hid hm
              clear hbel hheap hm hml hg1 hg2
              go_wp2_with fail
              go_quiet (fail)
              go_wp2_with fail
              go_roundw
              case rel =>
                refine ⟨m + 1, HM3.out, by go_num, Lib.hid (fun j z hj hz => ?_), ⟨HBR.out.os, HBR.out.tape, HBR.out.output, HBR.out.size, HBR.out.block⟩, HHW.out⟩
                rcases Nat.lt_or_ge j m with h5 | h5
                · exact HM.out j z h5 hz
                · obtain rfl : j = m := by omega
                  rw [HY.out] at hz
                  cases hz
                  exact HS.out
              case measure =>
                have := HM3.out
                simp [intOf]
                omega
            · have hs2 := Bool.eq_false_iff.2 hs
              have HIN := Lib.hid (insS_at x (upR xs k) m (by rw [← HL.out]; exact hml) HM.out (fun z hz => by rw [HY.out] at hz; cases hz; exact hs2))
              clear hs
              go_wp2_with fail
              go_quiet (fail)
              go_wp2_with fail
              have hb2 : Below w.heap.size w (wr.drewN nq) := ⟨hbel.os, hbel.tape, hbel.output, hbel.size, hbel.block⟩
              have hh2 : (wr.drewN nq).heap = wo.heap := hheap
              generalize wr.drewN nq = wz at hb2 hh2 ⊢
              clear hbel hheap
              clear c1 c2 hs2
              generalize (some ⟨g, 0, none⟩ : Option Addr) = A' at HO HRD HGG ⊢
              have HML := Lib.hid hml
              have HHW := Lib.hid hh2
              have HBR := Lib.hid hb2
              have HWS := Lib.hid hb2.size
              have HRW : Hid (RdG eS wz wz.heap.size A' l (upR xs k)) := Lib.hid (by
                have h9 := HRD.out.keep (w' := wz) (fun p _ => by unfold World.cell?; rw [hh2])
                rw [hh2]
                exact h9)
              have HRX := Lib.hid (fun W (hW : Below wz.heap.size wz W) => ((HR.out.below (hb2.mono HBB.out)).below (hW.mono (Nat.le_trans HBB.out hb2.size))).range HX.out)
              have HLB : Hid (([] : List Shr).length + m ≤ 100000000) := Lib.hid (by simp only [List.length_nil]; omega)
              have HLC : Hid (((upR xs k).take m).length + 1 ≤ 100000000) := Lib.hid (by rw [List.length_take, ← HL.out]; omega)
              have HLD : Hid (((upR xs k).take m ++ [x]).length + (l - m) ≤ 100000000) := Lib.hid (by rw [List.length_append, List.length_take, ← HL.out]; simp only [List.length_cons, List.length_nil]; omega)
              have HRT := Lib.hid (fun W (hW : Below wz.heap.size wz W) => rd_rest c' (HRW.out.below hW) hml hlc)
              have hmc : (m : Int) ≤ (c' : Int) := by omega
              have hml2 : (m : Int) ≤ (l : Int) := by omega
              clear hb2 hh2
              apply cut_ri (H := fun W v b1 => OwnG eS W wz.heap.size v ((upR xs k).take m) ∧ Blk W 48 b1 (eS.f x) ∧ Below wz.heap.size wz W)
              case h1 =>
                intro hc
                refine wp_region_held_drew (S := fun W => Below wz.heap.size wz W) (by kernel_rfl) ((Below.refl _ _).drew) (fun hHeld => ?_)
                obtain ⟨X1, hX⟩ : ∃ X, wz.drew = X := ⟨_, rfl⟩
                rw [hX] at hHeld ⊢
                clear hX
                refine tk 1 38 (.slice A' l c') rfl hHeld ?_
                simp only [Act.put, sA, sZ, sS]
                refine tk 2 39 (.int .i64 (m : Int)) rfl hHeld ?_
                simp only [Act.put, sA, sZ, sS]
                refine tk 3 40 (.slice A' m c') rfl hHeld ?_
                simp only [Act.put, sA, sZ, sS]
                refine tk 5 42 (.slice (some ⟨b, off, none⟩) n c) rfl hHeld ?_
                simp only [Act.put, sA, sZ, sS]
                refine tk 6 43 (.int .i64 (k : Int)) rfl hHeld ?_
                simp only [Act.put, sA, sZ, sS]
                refine tk 7 44 (.pointer (some ⟨b, off + k * 2, none⟩)) rfl hHeld ?_
                simp only [Act.put, sA, sZ, sS]
                refine tkY 8 45 (.agg #[strV x.nm, .int .i64 x.q]) rfl (yieldsIf_load_mid (by rfl) 48 _ rfl b (off + k * 2) rfl (eS.f x) _ (fun W hW => HRX.out W hW) Try.underlying48 rfl share_size) hHeld ?_
                simp only [Act.put, sA, sZ, sS]
                refine tk 11 48 (.slice A' l c') rfl hHeld ?_
                simp only [Act.put, sA, sZ, sS]
                refine tk 12 49 (.int .i64 (m : Int)) rfl hHeld ?_
                simp only [Act.put, sA, sZ, sS]
                refine tk 13 50 (.slice (if c' = m then A' else A'.map fun a => a.add (m * 2)) (l - m) (c' - m)) rfl hHeld ?_
                simp only [Act.put, sA, sZ, sS]
                refine wpAnyH_ready (rs := [0, 9]) (by kernel_rfl) (by simp) (AllReadyH.cons (o := ⟨some 37, _, _, _, _, _⟩) rfl (fun K hK => ?_) (AllReadyH.cons (o := ⟨some 46, _, _, _, _, _⟩) rfl (fun K hK => ?_) AllReadyH.nil))
                · go_simp
                  have HV0 := Lib.hid (show OwnG eS (X1.alloc (.cells #[] 48)) wz.heap.size (.slice (some ⟨X1.heap.size, 0, none⟩) 0 0) [] from OwnG.empty eS X1 hHeld.size)
                  have HBB := Lib.hid (hHeld.alloc hHeld.size (.cells #[] 48))
                  have HGL := Lib.hid (show X1.heap.size < (X1.alloc (.cells #[] 48)).heap.size by rw [World.size_alloc]; exact Nat.lt_succ_self _)
                  generalize X1.alloc (.cells #[] 48) = X2 at HV0 HBB HGL ⊢
                  generalize X1.heap.size = g0 at HV0 HGL ⊢
                  refine hK.out _ _ (HBB.out) (fun hHeld => ?_)
                  clear hK K
                  refine wpAnyH_ready (rs := [4, 9]) (by kernel_rfl) (by simp) (AllReadyH.cons (o := ⟨some 41, _, _, _, _, _⟩) rfl (fun K hK => ?_) (AllReadyH.cons (o := ⟨some 46, _, _, _, _, _⟩) rfl (fun K hK => ?_) AllReadyH.nil))
                  · refine step_appendG eS rfl (.tmp 37) (.tmp 40) rfl wz.heap.size _ [] (by rfl) HV0.out _ A' m c' ((upR xs k).take m) (by rfl) ((HRW.out.below hHeld).take HML.out) HLB.out hHeld.size ?_
                    intro v1 X3 hv1 hg1 _
                    have HBB := Lib.hid (hHeld.grown hg1 hHeld.size HV0.out.lt)
                    have HV1 := Lib.hid hv1
                    clear hv1 hg1
                    refine hK.out _ _ (HBB.out) (fun hHeld => ?_)
                    clear hK K
                    refine wpAnyH_ready (rs := [9]) (by kernel_rfl) (by simp) (AllReadyH.cons (o := ⟨some 46, _, _, _, _, _⟩) rfl (fun K hK => ?_) AllReadyH.nil)
                    go_simp
                    have HXS := Lib.hid (show Blk (X3.alloc (.cells #[strV x.nm, .int .i64 x.q] 48)) 48 X3.heap.size (eS.f x) from Blk_10.new X3 _ (eS.f x))
                    have HBB := Lib.hid (hHeld.alloc hHeld.size (.cells #[strV x.nm, .int .i64 x.q] 48))
                    have HVB := Lib.hid (HV1.out.alloc (.cells #[strV x.nm, .int .i64 x.q] 48))
                    clear HV1
                    generalize X3.alloc (.cells #[strV x.nm, .int .i64 x.q] 48) = X4 at HXS HBB HVB ⊢
                    generalize X3.heap.size = b1 at HXS ⊢
                    refine hK.out _ _ (HBB.out) (fun hHeld => ?_)
                    clear hK K
                    have HV1 := HVB
                    clear HVB
                    exact hc X4 g0 v1 b1 ⟨HV1.out, HXS.out, hHeld⟩
                  · go_simp
                    have HXS := Lib.hid (show Blk (X2.alloc (.cells #[strV x.nm, .int .i64 x.q] 48)) 48 X2.heap.size (eS.f x) from Blk_10.new X2 _ (eS.f x))
                    have HBB := Lib.hid (hHeld.alloc hHeld.size (.cells #[strV x.nm, .int .i64 x.q] 48))
                    have HVA := Lib.hid (HV0.out.alloc (.cells #[strV x.nm, .int .i64 x.q] 48))
                    have HNE := Lib.hid (show g0 ≠ X2.heap.size from fun e => by have := HGL.out; omega)
                    clear HV0
                    generalize X2.alloc (.cells #[strV x.nm, .int .i64 x.q] 48) = X3 at HXS HBB HVA ⊢
                    generalize X2.heap.size = b1 at HXS HNE ⊢
                    refine hK.out _ _ (HBB.out) (fun hHeld => ?_)
                    clear hK K
                    have HV0 := HVA
                    clear HVA
                    refine wpAnyH_ready (rs := [4]) (by kernel_rfl) (by simp) (AllReadyH.cons (o := ⟨some 41, _, _, _, _, _⟩) rfl (fun K hK => ?_) AllReadyH.nil)
                    refine step_appendG eS rfl (.tmp 37) (.tmp 40) rfl wz.heap.size _ [] (by rfl) HV0.out _ A' m c' ((upR xs k).take m) (by rfl) ((HRW.out.below hHeld).take HML.out) HLB.out hHeld.size ?_
                    intro v1 X4 hv1 hg1 _
                    have HBB := Lib.hid (hHeld.grown hg1 hHeld.size HV0.out.lt)
                    have HV1 := Lib.hid hv1
                    have HXB := Lib.hid (Blk.gb HXS.out hg1 (fun e => HNE.out (by cases e; rfl)))
                    clear HXS
                    clear hv1 hg1
                    refine hK.out _ _ (HBB.out) (fun hHeld => ?_)
                    clear hK K
                    have HXS := HXB
                    clear HXB
                    exact hc X4 g0 v1 b1 ⟨HV1.out, HXS.out, hHeld⟩
                · go_simp
                  have HXS := Lib.hid (show Blk (X1.alloc (.cells #[strV x.nm, .int .i64 x.q] 48)) 48 X1.heap.size (eS.f x) from Blk_10.new X1 _ (eS.f x))
                  have HBB := Lib.hid (hHeld.alloc hHeld.size (.cells #[strV x.nm, .int .i64 x.q] 48))
                  generalize X1.alloc (.cells #[strV x.nm, .int .i64 x.q] 48) = X2 at HXS HBB ⊢
                  generalize X1.heap.size = b1 at HXS ⊢
                  refine hK.out _ _ (HBB.out) (fun hHeld => ?_)
                  clear hK K
                  refine wpAnyH_ready (rs := [0]) (by kernel_rfl) (by simp) (AllReadyH.cons (o := ⟨some 37, _, _, _, _, _⟩) rfl (fun K hK => ?_) AllReadyH.nil)
                  go_simp
                  have HV0 := Lib.hid (show OwnG eS (X2.alloc (.cells #[] 48)) wz.heap.size (.slice (some ⟨X2.heap.size, 0, none⟩) 0 0) [] from OwnG.empty eS X2 hHeld.size)
                  have HBB := Lib.hid (hHeld.alloc hHeld.size (.cells #[] 48))
                  have HXB := Lib.hid (HXS.out.alloc (.cells #[] 48))
                  have HNE := Lib.hid (show X2.heap.size ≠ b1 from fun e => by have := Blk_10.lt HXS.out; omega)
                  have HGL := Lib.hid (show X2.heap.size < (X2.alloc (.cells #[] 48)).heap.size by rw [World.size_alloc]; exact Nat.lt_succ_self _)
                  clear HXS
                  generalize X2.alloc (.cells #[] 48) = X3 at HV0 HBB HGL HXB ⊢
                  generalize X2.heap.size = g0 at HV0 HGL HNE ⊢
                  refine hK.out _ _ (HBB.out) (fun hHeld => ?_)
                  clear hK K
                  have HXS := HXB
                  clear HXB
                  refine wpAnyH_ready (rs := [4]) (by kernel_rfl) (by simp) (AllReadyH.cons (o := ⟨some 41, _, _, _, _, _⟩) rfl (fun K hK => ?_) AllReadyH.nil)
                  refine step_appendG eS rfl (.tmp 37) (.tmp 40) rfl wz.heap.size _ [] (by rfl) HV0.out _ A' m c' ((upR xs k).take m) (by rfl) ((HRW.out.below hHeld).take HML.out) HLB.out hHeld.size ?_
                  intro v1 X4 hv1 hg1 _
                  have HBB := Lib.hid (hHeld.grown hg1 hHeld.size HV0.out.lt)
                  have HV1 := Lib.hid hv1
                  have HXB := Lib.hid (Blk.gb HXS.out hg1 (fun e => HNE.out (by cases e; rfl)))
                  clear HXS
                  clear hv1 hg1
                  refine hK.out _ _ (HBB.out) (fun hHeld => ?_)
                  clear hK K
                  have HXS := HXB
                  clear HXB
                  exact hc X4 g0 v1 b1 ⟨HV1.out, HXS.out, hHeld⟩
              case h2 =>
                intro W g0 v1 b1 hHH
                obtain ⟨hv1, hxs, hHeld⟩ := hHH
                have HV1 := Lib.hid hv1
                have HXR := Lib.hid (rd_blk hxs)
                clear hv1 hxs
                refine wpAnyH_ready (rs := [10]) (by kernel_rfl) (by simp) (AllReadyH.cons (o := ⟨some 47, _, _, _, _, _⟩) rfl (fun K hK => ?_) AllReadyH.nil)
                refine step_appendG eS rfl (.tmp 41) (.tmp 46) rfl wz.heap.size _ ((upR xs k).take m) (by rfl) HV1.out _ (some ⟨b1, 0, none⟩) 1 1 [x] (by rfl) HXR.out HLC.out hHeld.size ?_
                intro v2 W2 hv2 hg2 _
                have HBB := Lib.hid (hHeld.grown hg2 hHeld.size HV1.out.lt)
                have HV2 := Lib.hid hv2
                clear hv2 hg2 HV1 HXR
                refine hK.out _ _ (HBB.out) (fun hHeld => ?_)
                clear hK K HBB
                refine wpAnyH_ready (rs := [14]) (by kernel_rfl) (by simp) (AllReadyH.cons (o := ⟨some 51, _, _, _, _, _⟩) rfl (fun K hK => ?_) AllReadyH.nil)
                refine step_appendG eS rfl (.tmp 47) (.tmp 50) rfl wz.heap.size _ ((upR xs k).take m ++ [x]) (by rfl) HV2.out _ _ _ _ ((upR xs k).drop m) (by rfl) (HRT.out W2 hHeld) HLD.out hHeld.size ?_
                intro v3 W3 hv3 hg3 _
                have HBB := Lib.hid (hHeld.grown hg3 hHeld.size HV2.out.lt)
                have HV3 := Lib.hid hv3
                clear hv3 hg3 HV2
                refine hK.out _ _ (HBB.out) (fun hHeld => ?_)
                clear hK K HBB
                refine tk 15 3 v3 rfl hHeld ?_
                simp only [Act.put, sA, sZ, sS]
                refine wpAnyH_done (by kernel_rfl) ?_ _
                have HB9 := Lib.hid hHeld
                clear hHeld
                go_wp2_with fail
                go_roundw
                case rel => exact ⟨k + 1, HLT.out, (by have := HLT.out; have := HN.out; go_num), by rw [HE.out, HIN.out]; exact (List.append_assoc _ _ _ ▸ HV3.out).base_le HWS.out, HBR.out.trans (HB9.out.mono HWS.out)⟩
                case measure =>
                  have := HLT.out
                  have := HN.out
                  simp [intOf]
                  omega
          · obtain rfl : m = l := by omega
            have h3 : ¬ (m : Int) < (m : Int) := by omega
            have HIN := Lib.hid (insS_at x (upR xs k) m (by rw [← HL.out]; exact Nat.le_refl _) HM.out (fun z hz => by have := (List.getElem?_eq_some_iff.1 hz).1; have := HL.out; omega))
            have hlm : m ≤ m := hml
            clear hm
            go_wp2_with fail
            go_quiet (fail)
            go_wp2_with fail
            have hb2 : Below w.heap.size w (wr.drewN nq) := ⟨hbel.os, hbel.tape, hbel.output, hbel.size, hbel.block⟩
            have hh2 : (wr.drewN nq).heap = wo.heap := hheap
            generalize wr.drewN nq = wz at hb2 hh2 ⊢
            clear hbel hheap
            have HML := Lib.hid hml
            have HHW := Lib.hid hh2
            have HBR := Lib.hid hb2
            have HWS := Lib.hid hb2.size
            have HRW : Hid (RdG eS wz wz.heap.size A' m (upR xs k)) := Lib.hid (by
              have h9 := HRD.out.keep (w' := wz) (fun p _ => by unfold World.cell?; rw [hh2])
              rw [hh2]
              exact h9)
            have HRX := Lib.hid (fun W (hW : Below wz.heap.size wz W) => ((HR.out.below (hb2.mono HBB.out)).below (hW.mono (Nat.le_trans HBB.out hb2.size))).range HX.out)
            have HLB : Hid (([] : List Shr).length + m ≤ 100000000) := Lib.hid (by simp only [List.length_nil]; omega)
            have HLC : Hid (((upR xs k).take m).length + 1 ≤ 100000000) := Lib.hid (by rw [List.length_take, ← HL.out]; omega)
            have HLD : Hid (((upR xs k).take m ++ [x]).length + 0 ≤ 100000000) := Lib.hid (by rw [List.length_append, List.length_take, ← HL.out]; simp only [List.length_cons, List.length_nil]; omega)
            have HRT := Lib.hid (fun W (hW : Below wz.heap.size wz W) => (show RdG eS W wz.heap.size (if c' = m then A' else A'.map fun a => a.add (m * 2)) 0 ((upR xs k).drop m) from by have h9 := rd_rest c' (HRW.out.below hW) hml hlc; rwa [Nat.sub_self] at h9))
            have hmc : (m : Int) ≤ (c' : Int) := by omega
            have hml2 : (m : Int) ≤ (m : Int) := by omega
            clear hb2 hh2
            apply cut_ri (H := fun W v b1 => OwnG eS W wz.heap.size v ((upR xs k).take m) ∧ Blk W 48 b1 (eS.f x) ∧ Below wz.heap.size wz W)
            case h1 =>
              intro hc
              refine wp_region_held_drew (S := fun W => Below wz.heap.size wz W) (by kernel_rfl) ((Below.refl _ _).drew) (fun hHeld => ?_)
              obtain ⟨X1, hX⟩ : ∃ X, wz.drew = X := ⟨_, rfl⟩
              rw [hX] at hHeld ⊢
              clear hX
              refine tk 1 38 (.slice A' m c') rfl hHeld ?_
              simp only [Act.put, sA, sZ, sS]
              refine tk 2 39 (.int .i64 (m : Int)) rfl hHeld ?_
              simp only [Act.put, sA, sZ, sS]
              refine tk 3 40 (.slice A' m c') rfl hHeld ?_
              simp only [Act.put, sA, sZ, sS]
              refine tk 5 42 (.slice (some ⟨b, off, none⟩) n c) rfl hHeld ?_
              simp only [Act.put, sA, sZ, sS]
              refine tk 6 43 (.int .i64 (k : Int)) rfl hHeld ?_
              simp only [Act.put, sA, sZ, sS]
              refine tk 7 44 (.pointer (some ⟨b, off + k * 2, none⟩)) rfl hHeld ?_
              simp only [Act.put, sA, sZ, sS]
              refine tkY 8 45 (.agg #[strV x.nm, .int .i64 x.q]) rfl (yieldsIf_load_mid (by rfl) 48 _ rfl b (off + k * 2) rfl (eS.f x) _ (fun W hW => HRX.out W hW) Try.underlying48 rfl share_size) hHeld ?_
              simp only [Act.put, sA, sZ, sS]
              refine tk 11 48 (.slice A' m c') rfl hHeld ?_
              simp only [Act.put, sA, sZ, sS]
              refine tk 12 49 (.int .i64 (m : Int)) rfl hHeld ?_
              simp only [Act.put, sA, sZ, sS]
              refine tk 13 50 (.slice (if c' = m then A' else A'.map fun a => a.add (m * 2)) 0 (c' - m)) rfl hHeld ?_
              simp only [Act.put, sA, sZ, sS]
              refine wpAnyH_ready (rs := [0, 9]) (by kernel_rfl) (by simp) (AllReadyH.cons (o := ⟨some 37, _, _, _, _, _⟩) rfl (fun K hK => ?_) (AllReadyH.cons (o := ⟨some 46, _, _, _, _, _⟩) rfl (fun K hK => ?_) AllReadyH.nil))
              · go_simp
                have HV0 := Lib.hid (show OwnG eS (X1.alloc (.cells #[] 48)) wz.heap.size (.slice (some ⟨X1.heap.size, 0, none⟩) 0 0) [] from OwnG.empty eS X1 hHeld.size)
                have HBB := Lib.hid (hHeld.alloc hHeld.size (.cells #[] 48))
                have HGL := Lib.hid (show X1.heap.size < (X1.alloc (.cells #[] 48)).heap.size by rw [World.size_alloc]; exact Nat.lt_succ_self _)
                generalize X1.alloc (.cells #[] 48) = X2 at HV0 HBB HGL ⊢
                generalize X1.heap.size = g0 at HV0 HGL ⊢
                refine hK.out _ _ (HBB.out) (fun hHeld => ?_)
                clear hK K
                refine wpAnyH_ready (rs := [4, 9]) (by kernel_rfl) (by simp) (AllReadyH.cons (o := ⟨some 41, _, _, _, _, _⟩) rfl (fun K hK => ?_) (AllReadyH.cons (o := ⟨some 46, _, _, _, _, _⟩) rfl (fun K hK => ?_) AllReadyH.nil))
                · refine step_appendG eS rfl (.tmp 37) (.tmp 40) rfl wz.heap.size _ [] (by rfl) HV0.out _ A' m c' ((upR xs k).take m) (by rfl) ((HRW.out.below hHeld).take HML.out) HLB.out hHeld.size ?_
                  intro v1 X3 hv1 hg1 _
                  have HBB := Lib.hid (hHeld.grown hg1 hHeld.size HV0.out.lt)
                  have HV1 := Lib.hid hv1
                  clear hv1 hg1
                  refine hK.out _ _ (HBB.out) (fun hHeld => ?_)
                  clear hK K
                  refine wpAnyH_ready (rs := [9]) (by kernel_rfl) (by simp) (AllReadyH.cons (o := ⟨some 46, _, _, _, _, _⟩) rfl (fun K hK => ?_) AllReadyH.nil)
                  go_simp
                  have HXS := Lib.hid (show Blk (X3.alloc (.cells #[strV x.nm, .int .i64 x.q] 48)) 48 X3.heap.size (eS.f x) from Blk_10.new X3 _ (eS.f x))
                  have HBB := Lib.hid (hHeld.alloc hHeld.size (.cells #[strV x.nm, .int .i64 x.q] 48))
                  have HVB := Lib.hid (HV1.out.alloc (.cells #[strV x.nm, .int .i64 x.q] 48))
                  clear HV1
                  generalize X3.alloc (.cells #[strV x.nm, .int .i64 x.q] 48) = X4 at HXS HBB HVB ⊢
                  generalize X3.heap.size = b1 at HXS ⊢
                  refine hK.out _ _ (HBB.out) (fun hHeld => ?_)
                  clear hK K
                  have HV1 := HVB
                  clear HVB
                  exact hc X4 g0 v1 b1 ⟨HV1.out, HXS.out, hHeld⟩
                · go_simp
                  have HXS := Lib.hid (show Blk (X2.alloc (.cells #[strV x.nm, .int .i64 x.q] 48)) 48 X2.heap.size (eS.f x) from Blk_10.new X2 _ (eS.f x))
                  have HBB := Lib.hid (hHeld.alloc hHeld.size (.cells #[strV x.nm, .int .i64 x.q] 48))
                  have HVA := Lib.hid (HV0.out.alloc (.cells #[strV x.nm, .int .i64 x.q] 48))
                  have HNE := Lib.hid (show g0 ≠ X2.heap.size from fun e => by have := HGL.out; omega)
                  clear HV0
                  generalize X2.alloc (.cells #[strV x.nm, .int .i64 x.q] 48) = X3 at HXS HBB HVA ⊢
                  generalize X2.heap.size = b1 at HXS HNE ⊢
                  refine hK.out _ _ (HBB.out) (fun hHeld => ?_)
                  clear hK K
                  have HV0 := HVA
                  clear HVA
                  refine wpAnyH_ready (rs := [4]) (by kernel_rfl) (by simp) (AllReadyH.cons (o := ⟨some 41, _, _, _, _, _⟩) rfl (fun K hK => ?_) AllReadyH.nil)
                  refine step_appendG eS rfl (.tmp 37) (.tmp 40) rfl wz.heap.size _ [] (by rfl) HV0.out _ A' m c' ((upR xs k).take m) (by rfl) ((HRW.out.below hHeld).take HML.out) HLB.out hHeld.size ?_
                  intro v1 X4 hv1 hg1 _
                  have HBB := Lib.hid (hHeld.grown hg1 hHeld.size HV0.out.lt)
                  have HV1 := Lib.hid hv1
                  have HXB := Lib.hid (Blk.gb HXS.out hg1 (fun e => HNE.out (by cases e; rfl)))
                  clear HXS
                  clear hv1 hg1
                  refine hK.out _ _ (HBB.out) (fun hHeld => ?_)
                  clear hK K
                  have HXS := HXB
                  clear HXB
                  exact hc X4 g0 v1 b1 ⟨HV1.out, HXS.out, hHeld⟩
              · go_simp
                have HXS := Lib.hid (show Blk (X1.alloc (.cells #[strV x.nm, .int .i64 x.q] 48)) 48 X1.heap.size (eS.f x) from Blk_10.new X1 _ (eS.f x))
                have HBB := Lib.hid (hHeld.alloc hHeld.size (.cells #[strV x.nm, .int .i64 x.q] 48))
                generalize X1.alloc (.cells #[strV x.nm, .int .i64 x.q] 48) = X2 at HXS HBB ⊢
                generalize X1.heap.size = b1 at HXS ⊢
                refine hK.out _ _ (HBB.out) (fun hHeld => ?_)
                clear hK K
                refine wpAnyH_ready (rs := [0]) (by kernel_rfl) (by simp) (AllReadyH.cons (o := ⟨some 37, _, _, _, _, _⟩) rfl (fun K hK => ?_) AllReadyH.nil)
                go_simp
                have HV0 := Lib.hid (show OwnG eS (X2.alloc (.cells #[] 48)) wz.heap.size (.slice (some ⟨X2.heap.size, 0, none⟩) 0 0) [] from OwnG.empty eS X2 hHeld.size)
                have HBB := Lib.hid (hHeld.alloc hHeld.size (.cells #[] 48))
                have HXB := Lib.hid (HXS.out.alloc (.cells #[] 48))
                have HNE := Lib.hid (show X2.heap.size ≠ b1 from fun e => by have := Blk_10.lt HXS.out; omega)
                have HGL := Lib.hid (show X2.heap.size < (X2.alloc (.cells #[] 48)).heap.size by rw [World.size_alloc]; exact Nat.lt_succ_self _)
                clear HXS
                generalize X2.alloc (.cells #[] 48) = X3 at HV0 HBB HGL HXB ⊢
                generalize X2.heap.size = g0 at HV0 HGL HNE ⊢
                refine hK.out _ _ (HBB.out) (fun hHeld => ?_)
                clear hK K
                have HXS := HXB
                clear HXB
                refine wpAnyH_ready (rs := [4]) (by kernel_rfl) (by simp) (AllReadyH.cons (o := ⟨some 41, _, _, _, _, _⟩) rfl (fun K hK => ?_) AllReadyH.nil)
                refine step_appendG eS rfl (.tmp 37) (.tmp 40) rfl wz.heap.size _ [] (by rfl) HV0.out _ A' m c' ((upR xs k).take m) (by rfl) ((HRW.out.below hHeld).take HML.out) HLB.out hHeld.size ?_
                intro v1 X4 hv1 hg1 _
                have HBB := Lib.hid (hHeld.grown hg1 hHeld.size HV0.out.lt)
                have HV1 := Lib.hid hv1
                have HXB := Lib.hid (Blk.gb HXS.out hg1 (fun e => HNE.out (by cases e; rfl)))
                clear HXS
                clear hv1 hg1
                refine hK.out _ _ (HBB.out) (fun hHeld => ?_)
                clear hK K
                have HXS := HXB
                clear HXB
                exact hc X4 g0 v1 b1 ⟨HV1.out, HXS.out, hHeld⟩
            case h2 =>
              intro W g0 v1 b1 hHH
              obtain ⟨hv1, hxs, hHeld⟩ := hHH
              have HV1 := Lib.hid hv1
              have HXR := Lib.hid (rd_blk hxs)
              clear hv1 hxs
              refine wpAnyH_ready (rs := [10]) (by kernel_rfl) (by simp) (AllReadyH.cons (o := ⟨some 47, _, _, _, _, _⟩) rfl (fun K hK => ?_) AllReadyH.nil)
              refine step_appendG eS rfl (.tmp 41) (.tmp 46) rfl wz.heap.size _ ((upR xs k).take m) (by rfl) HV1.out _ (some ⟨b1, 0, none⟩) 1 1 [x] (by rfl) HXR.out HLC.out hHeld.size ?_
              intro v2 W2 hv2 hg2 _
              have HBB := Lib.hid (hHeld.grown hg2 hHeld.size HV1.out.lt)
              have HV2 := Lib.hid hv2
              clear hv2 hg2 HV1 HXR
              refine hK.out _ _ (HBB.out) (fun hHeld => ?_)
              clear hK K HBB
              refine wpAnyH_ready (rs := [14]) (by kernel_rfl) (by simp) (AllReadyH.cons (o := ⟨some 51, _, _, _, _, _⟩) rfl (fun K hK => ?_) AllReadyH.nil)
              refine step_appendG eS rfl (.tmp 47) (.tmp 50) rfl wz.heap.size _ ((upR xs k).take m ++ [x]) (by rfl) HV2.out _ _ _ _ ((upR xs k).drop m) (by rfl) (HRT.out W2 hHeld) HLD.out hHeld.size ?_
              intro v3 W3 hv3 hg3 _
              have HBB := Lib.hid (hHeld.grown hg3 hHeld.size HV2.out.lt)
              have HV3 := Lib.hid hv3
              clear hv3 hg3 HV2
              refine hK.out _ _ (HBB.out) (fun hHeld => ?_)
              clear hK K HBB
              refine tk 15 3 v3 rfl hHeld ?_
              simp only [Act.put, sA, sZ, sS]
              refine wpAnyH_done (by kernel_rfl) ?_ _
              have HB9 := Lib.hid hHeld
              clear hHeld
              go_wp2_with fail
              go_roundw
              case rel => exact ⟨k + 1, HLT.out, (by have := HLT.out; have := HN.out; go_num), by rw [HE.out, HIN.out]; exact (List.append_assoc _ _ _ ▸ HV3.out).base_le HWS.out, HBR.out.trans (HB9.out.mono HWS.out)⟩
              case measure =>
                have := HLT.out
                have := HN.out
                simp [intOf]
                omega
    · obtain rfl : k = n := by omega
      have h1 : ¬ (k : Int) < (k : Int) := by omega
      have HE : Hid (upR xs k = riseL xs) := Lib.hid (by rw [← HR.out.len]; exact upR_all xs)
      clear hlt hk hn
      go_wp2_with fail
      go_ret
      exact ⟨_, rfl, by rw [← HE.out]; exact HO.out, HBE.out⟩
end Go.Proofs.Ytmngagcekhlppaa
