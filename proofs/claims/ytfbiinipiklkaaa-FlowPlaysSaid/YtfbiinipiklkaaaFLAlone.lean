/-
  The laws' alone.
-/
import Derived.Test.YtfbiinipiklkaaaFLEx
namespace Go.Proofs.Ytfbiinipiklkaaa
set_option maxRecDepth 100000
open Go.RowKit Go.Lib

/-- All of unlike keys. -/
noncomputable def aloneB (l : List Fw) : Bool := @decide (l.Pairwise fun a b => a.k ≠ b.k) (Classical.propDecidable _)
theorem alone_iff (l : List Fw) : aloneB l = true ↔ l.Pairwise fun a b => a.k ≠ b.k := by
  unfold aloneB
  exact @decide_eq_true_iff _ (Classical.propDecidable _)
theorem alone_no {l : List Fw} {i j : Nat} {x y : Fw} (hij : i < j) (hx : l[i]? = some x) (hy : l[j]? = some y) (h : y.k = x.k) : aloneB l = false := by
  apply Bool.eq_false_iff.2
  intro e
  obtain ⟨h1, rfl⟩ := List.getElem?_eq_some_iff.1 hx
  obtain ⟨h2, rfl⟩ := List.getElem?_eq_some_iff.1 hy
  exact (List.pairwise_iff_getElem.1 ((alone_iff l).1 e)) i j h1 h2 hij h.symm
theorem alone_all {l : List Fw} (h : ∀ (j : Nat) (x y : Fw) (i : Nat), i < j → l[i]? = some x → l[j]? = some y → y.k ≠ x.k) : aloneB l = true := by
  refine (alone_iff l).2 (List.pairwise_iff_getElem.2 (fun i j hi hj hij e => ?_))
  exact h j _ _ i hij (List.getElem?_eq_getElem hi) (List.getElem?_eq_getElem hj) e.symm
set_option maxHeartbeats 8000000 in
theorem ralone_any {A : Option Addr} {n B : Nat} (c : Nat) {l : List Fw} (hn : n ≤ 1000000) (w : World) (hB : B ≤ w.heap.size) (h : RdG eF w B A n l) :
    Calls Try.prog 30 #[.slice A n c] w fun e w' => e = .returned (.bool (aloneB l)) ∧ Below w.heap.size w w' := by
  have HX := Lib.hid h
  have HL := Lib.hid h.len
  have HBB := Lib.hid hB
  have HN := Lib.hid hn
  obtain ⟨R, hR⟩ : ∃ R, aloneB l = R := ⟨_, rfl⟩
  rw [hR]
  have HR := Lib.hid hR
  clear h hR hB hn
  go_enter Try.func30, Try.ntmps30
  go_wp2_with fail
  go_loopw [3] (fun i wr => ∃ j : Nat, j ≤ n ∧ i = .int .i64 (j : Int) ∧ Hid (∀ b, b < j → ∀ x y a, a < b → l[a]? = some x → l[b]? = some y → y.k ≠ x.k) ∧ Hid (Below w.heap.size w wr)) (fun i _ => n - (RowKit.intOf i).toNat)
  case atStart => exact ⟨0, Nat.zero_le _, rfl, Lib.hid (fun b hb => absurd hb (by omega)), Lib.hid (Below.refl _ _)⟩
  case round =>
    obtain ⟨j, hj, rfl, HAL, HW⟩ := hrel
    by_cases hlt : j < n
    · have h1 : (j : Int) < (n : Int) := by omega
      have h0 : (0 : Int) ≤ (j : Int) := by omega
      obtain ⟨b, off, rfl, _⟩ := HX.out.addr (by omega)
      obtain ⟨y, hy⟩ : ∃ y, l[j]? = some y := ⟨_, List.getElem?_eq_getElem (by rw [HL.out]; exact hlt)⟩
      have RY : Hid (∀ W, Below w.heap.size w W → W.rangeAt b (off + j * 41) (tuL y.k)) := Lib.hid (fun W hW => fw_key ((HX.out.below (hW.mono HBB.out)).range hy))
      obtain ⟨LY, hLY⟩ : ∃ L, (tuL y.k).toArray = L := ⟨_, rfl⟩
      have HLY := Lib.hid hLY
      have HYY := Lib.hid hy
      have HLT := Lib.hid hlt
      have hj9 : j < 9223372036854775807 := by have := HN.out; omega
      clear hy hLY hlt hj
      go_upto_region 5 with (fail)
      go_loopw [4] (fun i wr => ∃ k : Nat, k ≤ j ∧ i = .int .i64 (k : Int) ∧ Hid (∀ x a, a < k → l[a]? = some x → y.k ≠ x.k) ∧ Hid (Below w.heap.size w wr)) (fun i _ => j - (RowKit.intOf i).toNat)
      case atStart => exact ⟨0, Nat.zero_le _, rfl, Lib.hid (fun x a ha => absurd ha (by omega)), HW⟩
      case round =>
        obtain ⟨k, hk, rfl, HIN, HV⟩ := hrel
        by_cases hlk : k < j
        · have h2 : (k : Int) < (j : Int) := by omega
          have h3 : (0 : Int) ≤ (k : Int) := by omega
          have h4 : (k : Int) < (n : Int) := by omega
          obtain ⟨x, hx⟩ : ∃ x, l[k]? = some x := ⟨_, List.getElem?_eq_getElem (by rw [HL.out]; have := HLT.out; omega)⟩
          have RX : Hid (∀ W, Below w.heap.size w W → W.rangeAt b (off + k * 41) (tuL x.k)) := Lib.hid (fun W hW => fw_key ((HX.out.below (hW.mono HBB.out)).range hx))
          obtain ⟨LX, hLX⟩ : ∃ L, (tuL x.k).toArray = L := ⟨_, rfl⟩
          obtain ⟨f, hf⟩ : ∃ f, tuQ y.k x.k = f := ⟨_, rfl⟩
          have HNQ : Hid (∀ W : World, (binOp .eql 26 (.agg LY) (.agg LX)).run Try.prog W = .ok (.bool f) W) := Lib.hid (by
            intro W
            have := run_eqls_tu W y.ok x.ok
            unfold tuC at this
            rw [HLY.out, hLX, hf] at this
            exact this)
          have HLX := Lib.hid hLX
          have HXX := Lib.hid hx
          have HFF := Lib.hid hf
          have HLK := Lib.hid hlk
          clear hx hLX hf hlk hk
          go_upto_region 7 with (fail)
          refine wp_region_held_drew (S := fun W => Below w.heap.size w W) (by kernel_rfl) (HV.out.drew) (fun hHeld => ?_)
          refine tk 0 16 (.slice (some ⟨b, off, none⟩) n c) rfl hHeld ?_
          simp only [Act.put, sA, sZ, sS]
          refine tk 1 17 (.int .i64 (j : Int)) rfl hHeld ?_
          simp only [Act.put, sA, sZ, sS]
          refine tk 2 18 (.pointer (some ⟨b, off + j * 41, none⟩)) rfl hHeld ?_
          simp only [Act.put, sA, sZ, sS]
          refine tk 3 19 (.pointer (some ⟨b, off + j * 41, none⟩)) rfl hHeld ?_
          simp only [Act.put, sA, sZ, sS]
          refine tkY 4 20 (.agg LY) rfl (by rw [← HLY.out]; exact yieldsIf_load_mid (by rfl) 26 _ rfl b (off + j * 41) (by rfl) (tuL y.k) _ (RY.out) Try.underlying26 rfl (sizeTuL y.ok)) hHeld ?_
          simp only [Act.put, sA, sZ, sS]
          refine tk 5 21 (.slice (some ⟨b, off, none⟩) n c) rfl hHeld ?_
          simp only [Act.put, sA, sZ, sS]
          refine tk 6 22 (.int .i64 (k : Int)) rfl hHeld ?_
          simp only [Act.put, sA, sZ, sS]
          refine tk 7 23 (.pointer (some ⟨b, off + k * 41, none⟩)) rfl hHeld ?_
          simp only [Act.put, sA, sZ, sS]
          refine tk 8 24 (.pointer (some ⟨b, off + k * 41, none⟩)) rfl hHeld ?_
          simp only [Act.put, sA, sZ, sS]
          refine tkY 9 25 (.agg LX) rfl (by rw [← HLX.out]; exact yieldsIf_load_mid (by rfl) 26 _ rfl b (off + k * 41) (by rfl) (tuL x.k) _ (RX.out) Try.underlying26 rfl (sizeTuL x.ok)) hHeld ?_
          simp only [Act.put, sA, sZ, sS]
          refine tkY 10 26 (.bool f) rfl (yields_cmpS (by rfl) .eql 26 _ _ _ rfl LY LX (by rfl) (by rfl) guard_tu' f HNQ.out) hHeld ?_
          simp only [Act.put, sA, sZ, sS]
          refine wpAnyH_done (by kernel_rfl) ?_ _
          have HB9 := Lib.hid hHeld
          clear hHeld
          cases f
          · go_wp2_with fail
            go_roundw
            case rel => exact ⟨k + 1, HLK.out, (by have := HLK.out; go_num), Lib.hid (fun z a ha hz => by
              by_cases e : a = k
              · subst e
                rw [HXX.out] at hz
                cases hz
                exact fun e => by have := HFF.out; rw [tuQ_eq.2 e] at this; cases this
              · exact HIN.out z a (by omega) hz), HB9⟩
            case measure =>
              have := HLK.out
              simp [RowKit.intOf]
              omega
          · have hv := alone_no HLK.out HXX.out HYY.out (tuQ_eq.1 HFF.out)
            rw [HR.out] at hv
            subst hv
            go_wp2_with fail
            go_ret
            exact ⟨rfl, HB9.out⟩
        · obtain rfl : k = j := by omega
          have h2 : ¬ (k : Int) < (k : Int) := by omega
          clear hlk hk
          go_wp2_with fail
          go_roundw
          case rel => exact ⟨k + 1, HLT.out, (by have := HLT.out; go_num), Lib.hid (fun d hd x z a ha hx hz => by
            by_cases e : d = k
            · subst e
              rw [HYY.out] at hz
              cases hz
              exact HIN.out x a ha hx
            · exact HAL.out d (by omega) x z a ha hx hz), HV⟩
          case measure =>
            have := HLT.out
            simp [RowKit.intOf]
            omega
    · obtain rfl : j = n := by omega
      have h1 : ¬ (j : Int) < (j : Int) := by omega
      have hv : aloneB l = true := alone_all (fun d x y a ha hx hy => HAL.out d (by rw [← HL.out]; exact (List.getElem?_eq_some_iff.1 hy).1) x y a ha hx hy)
      rw [HR.out] at hv
      subst hv
      clear hlt hj
      go_wp2_with fail
      go_ret
      exact ⟨rfl, HW.out⟩
end Go.Proofs.Ytfbiinipiklkaaa
