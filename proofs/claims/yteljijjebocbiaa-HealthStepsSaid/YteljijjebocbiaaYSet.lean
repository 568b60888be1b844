/-
  The document's Set.
-/
import Derived.Test.YteljijjebocbiaaYEq
import Derived.Test.YteljijjebocbiaaYRun
import Derived.Test.YteljijjebocbiaaBld1
namespace Go.Proofs.Yteljijjebocbiaa
set_option maxRecDepth 100000
open Go.RowKit Go.Lib

theorem hl_one (h : Hl) : ∀ v ∈ hlL h, v.oneCell' = true := eH.one h
theorem own_far {α : Type} {E : Enc α} {w : World} {base : Nat} {v : Value} {xs : List α} (h : OwnG E w base v xs) {g : Nat} (hg : w.heap.size ≤ g) : v.ownBlock = none ∨ v.ownBlock ≠ some g := by
  refine Or.inr (fun e => ?_)
  have := h.ltS g e
  omega
/-- The healths, the one at p changed. -/
def setL (g : Hl → Hl) (p : Int) (l : List Hl) : List Hl := l.mapIdx fun i h => if (i : Int) = p then g h else h
theorem setL_succ (g : Hl → Hl) (p : Int) {l : List Hl} {k : Nat} {x : Hl} (h : l[k]? = some x) : setL g p (l.take (k + 1)) = setL g p (l.take k) ++ [if (k : Int) = p then g x else x] := by
  have hk := (List.getElem?_eq_some_iff.1 h).1
  have e : l.take (k + 1) = l.take k ++ [x] := by rw [List.take_add_one, h]; rfl
  unfold setL
  rw [e, List.mapIdx_concat, List.length_take, Nat.min_eq_left (Nat.le_of_lt hk)]
theorem setL_len (g : Hl → Hl) (p : Int) (l : List Hl) : (setL g p l).length = l.length := by unfold setL; rw [List.length_mapIdx]
/-- Whether the one at p turned. -/
def setT (f : Hl → Bool) (p : Int) (l : List Hl) : Bool := if p < 0 then false else match l[p.toNat]? with
  | some h => f h
  | none => false
theorem setT_nil (f : Hl → Bool) (p : Int) : setT f p [] = false := by unfold setT; split <;> rfl
theorem setT_at (f : Hl → Bool) {l : List Hl} {k : Nat} {x : Hl} (h : l[k]? = some x) : setT f (k : Int) (l.take (k + 1)) = f x := by
  unfold setT
  rw [if_neg (by omega), show ((k : Int)).toNat = k from Int.toNat_natCast k, List.getElem?_take, if_pos (Nat.lt_succ_self k), h]
theorem setT_other (f : Hl → Bool) {p : Int} {l : List Hl} {k : Nat} (h : (k : Int) ≠ p) : setT f p (l.take (k + 1)) = setT f p (l.take k) := by
  unfold setT
  by_cases hp : p < 0
  · rw [if_pos hp, if_pos hp]
  · rw [if_neg hp, if_neg hp, List.getElem?_take, List.getElem?_take]
    by_cases h1 : p.toNat < k
    · rw [if_pos h1, if_pos (Nat.lt_succ_of_lt h1)]
    · rw [if_neg h1, if_neg (by omega)]
def setE (p : Int) : Int := if p < 0 then 5 else 0
def SetGave (w : World) (rise fall : Int) (well : Bool) (s : List UInt8) (l : List Hl) (e : Ending) (w' : World) : Prop :=
  ∃ r, e = .returned (.tuple #[r, .bool (setT (fun h => (stepH rise fall h well).2) (placeH (nmsH l) s) l), .int .i64 (setE (placeH (nmsH l) s))]) ∧ OwnG eH w' w.heap.size r (setL (fun h => (stepH rise fall h well).1) (placeH (nmsH l) s) l) ∧ Below w.heap.size w w'
set_option maxHeartbeats 8000000 in
theorem rsetH_any {A : Option Addr} {n B : Nat} (c : Nat) {l : List Hl} (hn : n ≤ 1000000) (hr : ∀ x, x ∈ l → InR x) (s : List UInt8) (well : Bool) (rise fall : Int) (w : World) (hB : B ≤ w.heap.size) (h : RdG eH w B A n l) :
    Calls Try.prog 24 #[.slice A n c, .string ⟨s.toArray⟩, .bool well, .int .i64 rise, .int .i64 fall] w (SetGave w rise fall well s l) := by
  unfold SetGave
  have HX := Lib.hid h
  have HL := Lib.hid h.len
  have HBB := Lib.hid hB
  have HIN := Lib.hid hr
  have HN := Lib.hid hn
  have HFD := Lib.hid (rfindH_any c (by omega) s w h)
  obtain ⟨p, hp⟩ : ∃ p, placeH (nmsH l) s = p := ⟨_, rfl⟩
  rw [hp] at HFD ⊢
  obtain ⟨G, hG⟩ : ∃ G, (fun h => (stepH rise fall h well).1) = G := ⟨_, rfl⟩
  obtain ⟨F, hF⟩ : ∃ F, (fun h => (stepH rise fall h well).2) = F := ⟨_, rfl⟩
  rw [hG, hF]
  have HST : Hid (∀ x, InR x → ∀ W, Calls Try.prog 12 #[hlC x, .bool well, .int .i64 rise, .int .i64 fall] W fun e w' => e = .returned (.tuple #[hlC (G x), .bool (F x)]) ∧ Below W.heap.size W w') := Lib.hid (by
    rw [← hG, ← hF]
    exact fun x hx W => rstep_any x well rise fall hx.1 hx.2 W)
  have HPL := Lib.hid hp
  clear hG hF hp h hr hB hn
  go_enter Try.func24, Try.ntmps24
  go_wp2_with fail
  refine HFD.out.mono ?_
  rintro e w1 ⟨rfl, h1⟩
  obtain rfl := h1
  go_wp2_with fail
  go_loopw [13, 14, 16] (fun t tn i wr => ∃ k : Nat, k ≤ n ∧ i = .int .i64 (k : Int) ∧ tn = .bool (setT F p (l.take k)) ∧ Hid (OwnG eH wr w1.heap.size t (setL G p (l.take k))) ∧ Hid (Below w1.heap.size w1 wr)) (fun _ _ i _ => n - (RowKit.intOf i).toNat)
  case atStart => exact ⟨0, Nat.zero_le _, rfl, by rw [List.take_zero, setT_nil], Lib.hid (OwnG.nil_ eH _ _), Lib.hid (Below.refl _ _)⟩
  case round =>
    obtain ⟨k, hk, rfl, rfl, HO, HW⟩ := hrel
    by_cases hlt : k < n
    · have h1 : (k : Int) < (n : Int) := by omega
      have h0 : (0 : Int) ≤ (k : Int) := by omega
      obtain ⟨b, off, rfl, _⟩ := HX.out.addr (by omega)
      obtain ⟨x, hx⟩ : ∃ x, l[k]? = some x := ⟨_, List.getElem?_eq_getElem (by rw [HL.out]; exact hlt)⟩
      have RX := Lib.hid ((HX.out.below (HW.out.mono HBB.out)).range hx)
      have HU := Lib.hid (setL_succ G p hx)
      have HTA := Lib.hid (fun (e : (k : Int) = p) => (show setT F p (l.take (k + 1)) = F x by rw [← e]; exact setT_at F hx))
      have HTO := Lib.hid (fun (e : (k : Int) ≠ p) => setT_other F (l := l) e)
      have HSX := Lib.hid (HST.out x (HIN.out x (List.mem_of_getElem? hx)))
      obtain ⟨LX, hLX⟩ : ∃ L, (hlL x).toArray = L := ⟨_, rfl⟩
      obtain ⟨LS, hLS⟩ : ∃ L, (hlL (G x)).toArray = L := ⟨_, rfl⟩
      have HLX := Lib.hid hLX
      have HLS := Lib.hid hLS
      have HSC : Hid (∀ W, Calls Try.prog 12 #[.agg LX, .bool well, .int .i64 rise, .int .i64 fall] W fun e w' => e = .returned (.tuple #[.agg LS, .bool (F x)]) ∧ Below W.heap.size W w') := Lib.hid (by rw [← hLX, ← hLS]; exact HSX.out)
      have HLTN := Lib.hid hlt
      have HLK : Hid ((setL G p (l.take k)).length + 1 ≤ 100000000) := Lib.hid (by rw [setL_len, List.length_take]; have := HN.out; omega)
      have hk9 : k < 9223372036854775807 := by have := HN.out; omega
      obtain ⟨tn, htn⟩ : ∃ t, setT F p (l.take k) = t := ⟨_, rfl⟩
      obtain ⟨fx, hfx⟩ : ∃ t, F x = t := ⟨_, rfl⟩
      rw [htn] at HTO ⊢
      rw [hfx] at HTA HSC
      clear hLX hLS hx hlt HSX htn hfx
      by_cases hkp : (k : Int) = p
      · have hke : ((k : Int) == p) = true := beq_iff_eq.2 hkp
        have HTB := Lib.hid (HTA.out hkp)
        have HKP := Lib.hid hkp
        clear hkp HTA HTO
        have HONE := Lib.hid (own_far HO.out (Nat.le_refl _))
        go_upto_region 9 with (first | ((with_reducible show wpList _ _ _ (⟨some 32, _, _, _, _, _⟩ :: _) _ _); refine wpList_loadHl (op := ⟨some 32, _, _, _, _, _⟩) _ rfl (by rfl) b (off + k * 3) (by rfl) x RX.out _ HLX.out ?_) | ((with_reducible show wpList _ _ _ (⟨none, .store 23 (.tmp 17) _, _, _, _, _⟩ :: _) _ _); refine wpList_storeNewG rfl 23 (.tmp 17) _ rfl (by rfl) (hlL x) (by rw [HLX.out]; rfl) (by rfl) hlSize (hl_one x) ?_; intro w3 hb3 hB3 hz3; have HBX := Lib.hid hb3; have HB3 := Lib.hid (HW.out.trans (hB3.mono HW.out.size)); have HO3 := Lib.hid (HO.out.below hB3); have HZ3 := Lib.hid hz3; have HLX3 := Lib.hid (Blk_10.lt hb3); clear hb3 hB3 hz3))
        go_upto_region 12 with (first | ((with_reducible show wpList _ _ _ (⟨some 37, _, _, _, _, _⟩ :: _) _ _); refine wpList_loadHl (op := ⟨some 37, _, _, _, _, _⟩) _ rfl (by rfl) wr.heap.size 0 (by rfl) x (Blk_10.range HBX.out) _ HLX.out ?_) | ((with_reducible refine (HSC.out w3).mono ?_); rintro e w4 ⟨rfl, hb⟩; have HB4 := Lib.hid (HB3.out.trans (hb.mono HB3.out.size)); have HO4 := Lib.hid (HO3.out.below hb); have HBX4 := Lib.hid (Blk_10.below HBX.out HLX3.out hb); have HS4 := Lib.hid hb.size; clear hb) | ((with_reducible show wpList _ _ _ (⟨none, .store 23 (.tmp 18) _, _, _, _, _⟩ :: _) _ _); refine wpList_storeNewG rfl 23 (.tmp 18) _ rfl (by rfl) (hlL (G x)) (by rw [HLS.out]; rfl) (by rfl) hlSize (hl_one (G x)) ?_; intro w5 hb5 hB5 hz5; have HBS := Lib.hid hb5; have HB5 := Lib.hid (HB4.out.trans (hB5.mono HB4.out.size)); have HO5 := Lib.hid (HO4.out.below hB5); have HBX5 := Lib.hid (Blk_10.below HBX4.out (Nat.lt_of_lt_of_le HLX3.out HS4.out) hB5); clear hb5 hB5 hz5) | ((with_reducible show wpList _ _ _ (⟨some 44, _, _, _, _, _⟩ :: _) _ _); refine wpList_loadHl (op := ⟨some 44, _, _, _, _, _⟩) _ rfl (by rfl) w4.heap.size 0 (by rfl) (G x) (Blk_10.range HBS.out) _ HLS.out ?_) | ((with_reducible show wpList _ _ _ (⟨none, .store 23 (.tmp 17) _, _, _, _, _⟩ :: _) _ _); refine wpList_storeBA rfl 23 (.tmp 17) _ rfl wr.heap.size (by rfl) (hlL (G x)) (by rw [HLS.out]; rfl) _ HBX5.out rfl hlSize (hl_one (G x)) ?_; intro w6 hb6 hg6; have HBX6 := Lib.hid hb6; have HB6 := Lib.hid (below_gb HB5.out hg6 HW.out.size HB5.out.size); have HO6 := Lib.hid (HO5.out.kept hg6 (HONE.out)); clear hb6 hg6))
        go_wp2_with (first | ((with_reducible show wpList _ _ _ (⟨some 47, _, _, _, _, _⟩ :: _) _ _); refine wpList_loadHl (op := ⟨some 47, _, _, _, _, _⟩) _ rfl (by rfl) wr.heap.size 0 (by rfl) (G x) (Blk_10.range HBX6.out) _ HLS.out ?_) | ((with_reducible show wpList _ _ _ (⟨some 48, _, _, _, _, _⟩ :: _) _ _); refine wpList_build1 (o := ⟨some 48, _, _, _, _, _⟩) eH (by decide) (G x) rfl 47 rfl _ HLS.out (by rfl) ?_) | ((with_reducible show wpList _ _ _ (⟨some 49, _, _, _, _, _⟩ :: _) _ _); refine wpList_appendG (o := ⟨some 49, _, _, _, _, _⟩) eH rfl _ _ rfl w1.heap.size _ (setL G p (l.take k)) (by rfl) (HO6.out.alloc _) (w6.heap.size + 1) _ 1 1 [G x] (by rfl) (RdG.laid eH w6 [G x] 1 rfl _ (by rw [← HLS.out]; simp [Enc.cells]; rfl)) HLK.out (by simp; exact Nat.le_succ_of_le HB6.out.size) ?_; intro v' w9 ho9 hg9 _; have hb9 := Lib.hid ((HB6.out.alloc HB6.out.size (.cells LS 23)).grown hg9 (by simp; exact Nat.le_succ_of_le HB6.out.size) HO6.out.lt); have ho10 := Lib.hid ho9; clear ho9 hg9))
        refine ⟨⟨k + 1, HLTN.out, by go_num, by rw [HTB.out], Lib.hid (by rw [HU.out, if_pos HKP.out]; exact ho10.out), hb9⟩, ?_⟩
        have := HLTN.out
        simp [RowKit.intOf]
        omega
      · have hke : ((k : Int) == p) = false := beq_eq_false_iff_ne.2 hkp
        have HTB := Lib.hid (HTO.out hkp)
        have HKP := Lib.hid hkp
        clear hkp HTA HTO
        go_upto_region 12 with (first | ((with_reducible show wpList _ _ _ (⟨some 32, _, _, _, _, _⟩ :: _) _ _); refine wpList_loadHl (op := ⟨some 32, _, _, _, _, _⟩) _ rfl (by rfl) b (off + k * 3) (by rfl) x RX.out _ HLX.out ?_) | ((with_reducible show wpList _ _ _ (⟨none, .store 23 (.tmp 17) _, _, _, _, _⟩ :: _) _ _); refine wpList_storeNewG rfl 23 (.tmp 17) _ rfl (by rfl) (hlL x) (by rw [HLX.out]; rfl) (by rfl) hlSize (hl_one x) ?_; intro w3 hb3 hB3 hz3; have HBX := Lib.hid hb3; have HB3 := Lib.hid (HW.out.trans (hB3.mono HW.out.size)); have HO3 := Lib.hid (HO.out.below hB3); have HZ3 := Lib.hid hz3; have HLX3 := Lib.hid (Blk_10.lt hb3); clear hb3 hB3 hz3))
        go_wp2_with (first | ((with_reducible show wpList _ _ _ (⟨some 47, _, _, _, _, _⟩ :: _) _ _); refine wpList_loadHl (op := ⟨some 47, _, _, _, _, _⟩) _ rfl (by rfl) wr.heap.size 0 (by rfl) x (Blk_10.range HBX.out) _ HLX.out ?_) | ((with_reducible show wpList _ _ _ (⟨some 48, _, _, _, _, _⟩ :: _) _ _); refine wpList_build1 (o := ⟨some 48, _, _, _, _, _⟩) eH (by decide) (x) rfl 47 rfl _ HLX.out (by rfl) ?_) | ((with_reducible show wpList _ _ _ (⟨some 49, _, _, _, _, _⟩ :: _) _ _); refine wpList_appendG (o := ⟨some 49, _, _, _, _, _⟩) eH rfl _ _ rfl w1.heap.size _ (setL G p (l.take k)) (by rfl) (HO3.out.alloc _) (w3.heap.size + 1) _ 1 1 [x] (by rfl) (RdG.laid eH w3 [x] 1 rfl _ (by rw [← HLX.out]; simp [Enc.cells]; rfl)) HLK.out (by simp; exact Nat.le_succ_of_le HB3.out.size) ?_; intro v' w9 ho9 hg9 _; have hb9 := Lib.hid ((HB3.out.alloc HB3.out.size (.cells LX 23)).grown hg9 (by simp; exact Nat.le_succ_of_le HB3.out.size) HO3.out.lt); have ho10 := Lib.hid ho9; clear ho9 hg9))
        refine ⟨⟨k + 1, HLTN.out, by go_num, by rw [HTB.out], Lib.hid (by rw [HU.out, if_neg HKP.out]; exact ho10.out), hb9⟩, ?_⟩
        have := HLTN.out
        simp [RowKit.intOf]
        omega
    · obtain rfl : k = n := by omega
      have h1 : ¬ (k : Int) < (k : Int) := by omega
      have HTK : Hid (l.take k = l) := Lib.hid (List.take_of_length_le (Nat.le_of_eq HL.out))
      rw [HTK.out] at HO ⊢
      clear hlt hk
      by_cases hp0 : p < 0
      · have hE : setE p = 5 := if_pos hp0
        have hT : setT F p l = false := if_pos hp0
        go_wp2_with fail
        go_ret3
        exact ⟨_, by first | rfl | (rw [hT]; rfl), HO.out, HW.out⟩
      · have hE : setE p = 0 := if_neg hp0
        go_wp2_with fail
        go_ret3
        exact ⟨_, rfl, HO.out, HW.out⟩
end Go.Proofs.Yteljijjebocbiaa
