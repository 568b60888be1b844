/-
  The document's Sync.
-/
import Derived.Test.YteljijjebocbiaaYSync
import Derived.Laws.Cover1
namespace Go.Proofs.Yteljijjebocbiaa
set_option maxRecDepth 100000
open Go.RowKit Go.Lib

/-- The best so far: none above, or the least above. -/
def BestAt (ns o : List (List UInt8)) (j : Nat) (v : Int) : Prop :=
  (v = -1 ∧ ∀ k y, k < j → ns[k]? = some y → abvN o y = false) ∨ ∃ (b : Nat) (x : List UInt8), v = (b : Int) ∧ b < j ∧ ns[b]? = some x ∧ abvN o x = true ∧ ∀ k y, k < j → ns[k]? = some y → abvN o y = true → Op.bytesLess y x = false
theorem BestAt.zero (ns o : List (List UInt8)) : BestAt ns o 0 (-1) := .inl ⟨rfl, fun k y h => absurd h (by omega)⟩
theorem BestAt.skip {ns o : List (List UInt8)} {j : Nat} {v : Int} {y : List UInt8} (h : BestAt ns o j v) (hy : ns[j]? = some y) (ha : abvN o y = false) : BestAt ns o (j + 1) v := by
  rcases h with ⟨h1, h2⟩ | ⟨b, x, h1, h2, h3, h4, h5⟩
  · refine .inl ⟨h1, fun k z hk hz => ?_⟩
    by_cases e : k = j
    · subst e
      rw [hy] at hz
      cases hz
      exact ha
    · exact h2 k z (by omega) hz
  · refine .inr ⟨b, x, h1, by omega, h3, h4, fun k z hk hz hab => ?_⟩
    by_cases e : k = j
    · subst e
      rw [hy] at hz
      cases hz
      rw [ha] at hab
      cases hab
    · exact h5 k z (by omega) hz hab
theorem BestAt.first {ns o : List (List UInt8)} {j : Nat} {y : List UInt8} (h : ∀ k y, k < j → ns[k]? = some y → abvN o y = false) (hy : ns[j]? = some y) (ha : abvN o y = true) : BestAt ns o (j + 1) (j : Int) := by
  refine .inr ⟨j, y, rfl, Nat.lt_succ_self j, hy, ha, fun k z hk hz hab => ?_⟩
  by_cases e : k = j
  · subst e
    rw [hy] at hz
    cases hz
    exact less_irr y
  · rw [h k z (by omega) hz] at hab
    cases hab
theorem BestAt.better {ns o : List (List UInt8)} {j : Nat} {x y : List UInt8} (h : ∀ k y, k < j → ns[k]? = some y → abvN o y = true → Op.bytesLess y x = false) (hy : ns[j]? = some y) (ha : abvN o y = true) (hl : Op.bytesLess y x = true) : BestAt ns o (j + 1) (j : Int) := by
  refine .inr ⟨j, y, rfl, Nat.lt_succ_self j, hy, ha, fun k z hk hz hab => ?_⟩
  by_cases e : k = j
  · subst e
    rw [hy] at hz
    cases hz
    exact less_irr y
  · refine Bool.eq_false_iff.2 (fun h2 => ?_)
    have := h k z (by omega) hz hab
    rw [less_trans h2 hl] at this
    cases this
theorem BestAt.worse {ns o : List (List UInt8)} {j b : Nat} {x y : List UInt8} (h : ∀ k y, k < j → ns[k]? = some y → abvN o y = true → Op.bytesLess y x = false) (hb : b < j) (hx : ns[b]? = some x) (hax : abvN o x = true) (hy : ns[j]? = some y) (hl : Op.bytesLess y x = false) : BestAt ns o (j + 1) (b : Int) := by
  refine .inr ⟨b, x, rfl, by omega, hx, hax, fun k z hk hz hab => ?_⟩
  by_cases e : k = j
  · subst e
    rw [hy] at hz
    cases hz
    exact hl
  · exact h k z (by omega) hz hab
theorem own_heap {α : Type} {E : Enc α} {w w' : World} {base : Nat} {v : Value} {xs : List α} (h : OwnG E w base v xs) (e : w'.heap = w.heap) : OwnG E w' base v xs := by
  unfold OwnG World.ownsRow at *
  rw [e]
  exact h
def lenV : Value → Nat
  | .slice _ n _ => n
  | _ => 0
def SyncGave (w : World) (l : List Hl) (ns : List (List UInt8)) (e : Ending) (w' : World) : Prop :=
  ∃ r, e = .returned r ∧ OwnG eH w' w.heap.size r (syncL l ns) ∧ Below w.heap.size w w'
set_option maxHeartbeats 16000000 in
theorem rsync_any {A A2 : Option Addr} {n n2 B B2 : Nat} (c c2 : Nat) {l : List Hl} {ns : List (List UInt8)} (hn : n ≤ 1000000) (hn2 : n2 ≤ 1000000) (w : World) (hB : B ≤ w.heap.size) (hB2 : B2 ≤ w.heap.size) (h : RdG eH w B A n l) (h2 : RdG eN w B2 A2 n2 ns) :
    Calls Try.prog 19 #[.slice A n c, .slice A2 n2 c2] w (SyncGave w l ns) := by
  unfold SyncGave
  have HX := Lib.hid h
  have HNS := Lib.hid h2
  have HL := Lib.hid h.len
  have HL2 := Lib.hid h2.len
  have HBB := Lib.hid hB
  have HBB2 := Lib.hid hB2
  have HN := Lib.hid hn
  have HN2 := Lib.hid hn2
  have HFD : Hid (∀ (s : List UInt8) (W : World), Below w.heap.size w W → Calls Try.prog 31 #[.slice A n c, .string ⟨s.toArray⟩] W fun e w' => e = .returned (.int .i64 (placeH (nmsH l) s)) ∧ w' = W) := Lib.hid (fun s W hW => rfindH_any c (by omega) s W (h.below (hW.mono hB)))
  clear h h2 hB hB2 hn hn2
  go_enter Try.func19, Try.ntmps19
  go_wp2_with fail
  go_loopw [5] (fun t wr => ∃ O : List (List UInt8), Hid (SoFar ns O) ∧ Hid (OwnG eH wr w.heap.size t (O.map (hlOf l))) ∧ Hid (Below w.heap.size w wr)) (fun t _ => n2 + 1 - lenV t)
  case atStart => exact ⟨[], Lib.hid (SoFar.nil_ ns), Lib.hid (OwnG.nil_ eH _ _), Lib.hid (Below.refl _ _)⟩
  case round =>
    obtain ⟨O, HSF, HO, HW⟩ := hrel
    obtain ⟨w1, hw1⟩ : ∃ z, z = wr := ⟨_, rfl⟩
    subst hw1
    obtain ⟨T, m, ct, rfl, hm, hmc, hcm, hrd, hat⟩ := HO.out.sl
    rw [List.length_map] at hm
    have HM := Lib.hid hm
    have HRD := Lib.hid hrd
    have HAT := Lib.hid hat
    clear hm hmc hcm hrd hat
    go_wp2_with fail
    go_loopw [6, 7] (fun bv i W => ∃ (j : Nat) (v : Int), j ≤ n2 ∧ i = .int .i64 (j : Int) ∧ bv = .int .i64 v ∧ Hid (BestAt ns O j v) ∧ Hid (W.heap = w1.heap) ∧ Hid (Below w.heap.size w W)) (fun _ i _ => n2 - (RowKit.intOf i).toNat)
    case atStart => exact ⟨0, -1, Nat.zero_le _, rfl, rfl, Lib.hid (BestAt.zero ns O), Lib.hid rfl, HW⟩
    case round =>
      obtain ⟨j, v, hj, rfl, rfl, HBA, HHP, HW2⟩ := hrel
      have ec : Hid (∀ p : Addr, wr.cell? p = w1.cell? p) := Lib.hid (fun p => by unfold World.cell?; rw [HHP.out])
      by_cases hlt : j < n2
      · have h1 : (j : Int) < (n2 : Int) := by omega
        have h0 : (0 : Int) ≤ (j : Int) := by omega
        obtain ⟨b, off, rfl, _⟩ := HNS.out.addr (by omega)
        obtain ⟨y, hy⟩ : ∃ y, ns[j]? = some y := ⟨_, List.getElem?_eq_getElem (by rw [HL2.out]; exact hlt)⟩
        have HNW := Lib.hid (HNS.out.below (HW2.out.mono HBB2.out))
        have c1 : wr.cell? ⟨b, off + j, none⟩ = some (.string ⟨y.toArray⟩) := HNW.out.cell1 hy rfl
        have HY := Lib.hid hy
        have HLT := Lib.hid hlt
        have hj9 : j < 9223372036854775807 := by have := HN2.out; omega
        clear hy hlt
        rcases List.eq_nil_or_concat O with rfl | ⟨O', z, rfl⟩
        · obtain rfl : m = 0 := by rw [HM.out]; rfl
          have HA := Lib.hid (abvN_nil y)
          rcases HBA.out with ⟨rfl, hall⟩ | ⟨q, x, rfl, hq, hx, hax, hle⟩
          · have HALL := Lib.hid hall
            clear hall
            go_wp2_with fail
            go_quiet (fail)
            go_wp2_with fail
            go_quiet (fail)
            go_wp2_with fail
            go_roundw
            case rel => exact ⟨j + 1, _, HLT.out, (by have := HLT.out; go_num), rfl, Lib.hid (BestAt.first HALL.out HY.out HA.out), HHP, Lib.hid ⟨HW2.out.os, HW2.out.tape, HW2.out.output, HW2.out.size, HW2.out.block⟩⟩
            case measure =>
              have := HLT.out
              simp [RowKit.intOf]
              omega
          · have HLE := Lib.hid hle
            have HXQ := Lib.hid hx
            have HAX := Lib.hid hax
            have HQ := Lib.hid hq
            have c3 : wr.cell? ⟨b, off + q, none⟩ = some (.string ⟨x.toArray⟩) := HNW.out.cell1 hx rfl
            have hq0 : (0 : Int) ≤ (q : Int) := by omega
            have hq1 : (q : Int) < (n2 : Int) := by have := HLT.out; omega
            have hqn : ¬ (q : Int) < 0 := by omega
            clear hle hx hax hq
            cases hl : Op.bytesLess y x
            · have HLS := Lib.hid hl
              go_wp2_with fail
              go_quiet (fail)
              go_wp2_with fail
              go_quiet (fail)
              go_wp2_with fail
              go_roundw
              case rel => exact ⟨j + 1, _, HLT.out, (by have := HLT.out; go_num), rfl, Lib.hid (BestAt.worse HLE.out HQ.out HXQ.out HAX.out HY.out HLS.out), HHP, Lib.hid ⟨HW2.out.os, HW2.out.tape, HW2.out.output, HW2.out.size, HW2.out.block⟩⟩
              case measure =>
                have := HLT.out
                simp [RowKit.intOf]
                omega
            · have HLS := Lib.hid hl
              go_wp2_with fail
              go_quiet (fail)
              go_wp2_with fail
              go_quiet (fail)
              go_wp2_with fail
              go_roundw
              case rel => exact ⟨j + 1, _, HLT.out, (by have := HLT.out; go_num), rfl, Lib.hid (BestAt.better HLE.out HY.out HA.out HLS.out), HHP, Lib.hid ⟨HW2.out.os, HW2.out.tape, HW2.out.output, HW2.out.size, HW2.out.block⟩⟩
              case measure =>
                have := HLT.out
                simp [RowKit.intOf]
                omega
        · rw [List.concat_eq_append] at *
          obtain ⟨p, rfl⟩ : ∃ p, m = p + 1 := ⟨O'.length, by rw [HM.out]; simp⟩
          obtain ⟨g, rfl, _, _⟩ := HAT.out (by omega)
          have hp : O'.length = p := by have := HM.out; rw [List.length_append, List.length_singleton] at this; omega
          have c2 : wr.cell? ⟨g, p * 3, none⟩ = some (.string ⟨z.toArray⟩) := by
            rw [ec.out]
            have hz : ((O' ++ [z]).map (hlOf l))[p]? = some (hlOf l z) := by rw [List.map_append, List.getElem?_append_right (by rw [List.length_map, hp]; exact Nat.le_refl _), List.length_map, hp, Nat.sub_self]; rfl
            have e := HRD.out.cell hz 0 (u := strV (hlOf l z).nm) rfl
            have e2 : 0 + (p * eH.k + 0) = p * 3 := by show 0 + (p * 3 + 0) = p * 3; omega
            rw [e2, hlOf_nm] at e
            exact e
          have h3 : 0 < ((p + 1 : Nat) : Int) := by omega
          have h4 : 0 ≤ ((p + 1 : Nat) : Int) - 1 := by omega
          have h5 : ((p + 1 : Nat) : Int) - 1 < ((p + 1 : Nat) : Int) := by omega
          have hp9 : p < 9223372036854775807 := by have := HSF.out.room; rw [List.length_append, List.length_singleton, hp, HL2.out] at this; have := HN2.out; omega
          have hwr : IntKind.i64.wrap (p : Int) = (p : Int) := by rw [IntKind.wrap_i64]; omega
          have hp8 : (0 : Int) ≤ (p : Int) := by omega
          have hp7 : (p : Int) < (p : Int) + 1 := by omega
          have HAE := Lib.hid (abvN_snoc O' z y)
          clear hp
          by_cases hlz : Op.bytesLess z y = true
          · have hz1 : Op.bytesLess y z = false := less_asym hlz
            have hz2 : (y == z) = false := beq_eq_false_iff_ne.2 (fun e => by rw [e, less_irr] at hlz; cases hlz)
            have HA : Hid (abvN (O' ++ [z]) y = true) := Lib.hid (HAE.out.trans hlz)
            clear hlz
            rcases HBA.out with ⟨rfl, hall⟩ | ⟨q, x, rfl, hq, hx, hax, hle⟩
            · have HALL := Lib.hid hall
              clear hall
              go_wp2_with fail
              go_quiet (fail)
              go_wp2_with fail
              go_quiet (fail)
              go_wp2_with fail
              go_roundw
              case rel => exact ⟨j + 1, _, HLT.out, (by have := HLT.out; go_num), rfl, Lib.hid (BestAt.first HALL.out HY.out HA.out), HHP, Lib.hid ⟨HW2.out.os, HW2.out.tape, HW2.out.output, HW2.out.size, HW2.out.block⟩⟩
              case measure =>
                have := HLT.out
                simp [RowKit.intOf]
                omega
            · have HLE := Lib.hid hle
              have HXQ := Lib.hid hx
              have HAX := Lib.hid hax
              have HQ := Lib.hid hq
              have c3 : wr.cell? ⟨b, off + q, none⟩ = some (.string ⟨x.toArray⟩) := HNW.out.cell1 hx rfl
              have hq0 : (0 : Int) ≤ (q : Int) := by omega
              have hq1 : (q : Int) < (n2 : Int) := by have := HLT.out; omega
              have hqn : ¬ (q : Int) < 0 := by omega
              clear hle hx hax hq
              cases hl : Op.bytesLess y x
              · have HLS := Lib.hid hl
                go_wp2_with fail
                go_quiet (fail)
                go_wp2_with fail
                go_quiet (fail)
                go_wp2_with fail
                go_roundw
                case rel => exact ⟨j + 1, _, HLT.out, (by have := HLT.out; go_num), rfl, Lib.hid (BestAt.worse HLE.out HQ.out HXQ.out HAX.out HY.out HLS.out), HHP, Lib.hid ⟨HW2.out.os, HW2.out.tape, HW2.out.output, HW2.out.size, HW2.out.block⟩⟩
                case measure =>
                  have := HLT.out
                  simp [RowKit.intOf]
                  omega
              · have HLS := Lib.hid hl
                go_wp2_with fail
                go_quiet (fail)
                go_wp2_with fail
                go_quiet (fail)
                go_wp2_with fail
                go_roundw
                case rel => exact ⟨j + 1, _, HLT.out, (by have := HLT.out; go_num), rfl, Lib.hid (BestAt.better HLE.out HY.out HA.out HLS.out), HHP, Lib.hid ⟨HW2.out.os, HW2.out.tape, HW2.out.output, HW2.out.size, HW2.out.block⟩⟩
                case measure =>
                  have := HLT.out
                  simp [RowKit.intOf]
                  omega
          · have hzf : Op.bytesLess z y = false := Bool.eq_false_iff.2 hlz
            have HA : Hid (abvN (O' ++ [z]) y = false) := Lib.hid (HAE.out.trans hzf)
            clear hlz
            by_cases he : y = z
            · have hz2 : (y == z) = true := beq_iff_eq.2 he
              have hz1 : Op.bytesLess y z = false := by rw [he]; exact less_irr z
              clear he hzf
              go_wp2_with fail
              go_quiet (fail)
              go_wp2_with fail
              go_roundw
              case rel => exact ⟨j + 1, _, HLT.out, (by have := HLT.out; go_num), rfl, Lib.hid (BestAt.skip HBA.out HY.out HA.out), HHP, Lib.hid ⟨HW2.out.os, HW2.out.tape, HW2.out.output, HW2.out.size, HW2.out.block⟩⟩
              case measure =>
                have := HLT.out
                simp [RowKit.intOf]
                omega
            · have hz1 : Op.bytesLess y z = true := less_other hzf (fun e => he e.symm)
              clear he hzf
              go_wp2_with fail
              go_quiet (fail)
              go_wp2_with fail
              go_roundw
              case rel => exact ⟨j + 1, _, HLT.out, (by have := HLT.out; go_num), rfl, Lib.hid (BestAt.skip HBA.out HY.out HA.out), HHP, Lib.hid ⟨HW2.out.os, HW2.out.tape, HW2.out.output, HW2.out.size, HW2.out.block⟩⟩
              case measure =>
                have := HLT.out
                simp [RowKit.intOf]
                omega
      · obtain rfl : j = n2 := by omega
        have h1 : ¬ (j : Int) < (j : Int) := by omega
        have HOW : Hid (OwnG eH wr w.heap.size (.slice T m ct) (O.map (hlOf l))) := Lib.hid (own_heap HO.out HHP.out)
        clear hlt
        rcases HBA.out with ⟨rfl, hall⟩ | ⟨q, x, rfl, hq, hx, hax, hle⟩
        · have HD : Hid (O = syncN ns) := Lib.hid (HSF.out.all (fun y hy => by
            obtain ⟨k, hk⟩ := List.getElem?_of_mem hy
            exact hall k y (by rw [← HL2.out]; exact (List.getElem?_eq_some_iff.1 hk).1) hk))
          clear hall
          go_wp2_with fail
          go_ret
          exact ⟨_, rfl, by unfold syncL; rw [← HD.out]; exact HOW.out, HW2.out⟩
        · have hxm := List.mem_of_getElem? hx
          have HNX := Lib.hid (HSF.out.next hxm hax (fun y hy hay => by
            obtain ⟨k, hk⟩ := List.getElem?_of_mem hy
            exact hle k y (by rw [← HL2.out]; exact (List.getElem?_eq_some_iff.1 hk).1) hk hay))
          have HRM : Hid (m < j) := Lib.hid (by rw [HM.out, ← HL2.out]; exact HSF.out.lt hxm hax)
          obtain ⟨b, off, rfl, _⟩ := HNS.out.addr (by omega)
          have HNW := Lib.hid (HNS.out.below (HW2.out.mono HBB2.out))
          have c3 : wr.cell? ⟨b, off + q, none⟩ = some (.string ⟨x.toArray⟩) := HNW.out.cell1 hx rfl
          have hq0 : (0 : Int) ≤ (q : Int) := by omega
          have hq1 : (q : Int) < (j : Int) := by omega
          have hqn : ¬ (q : Int) < 0 := by omega
          have HFX := Lib.hid (HFD.out x wr HW2.out)
          have HLK : Hid ((O.map (hlOf l)).length + 1 ≤ 100000000) := Lib.hid (by rw [List.length_map, ← HM.out]; have := HRM.out; have := HN2.out; omega)
          have HMP : Hid ((O ++ [x]).map (hlOf l) = O.map (hlOf l) ++ [hlOf l x]) := Lib.hid (by rw [List.map_append]; rfl)
          clear hle hax hxm hx
          rcases hlOf_place (l := l) (s := x) with ⟨hp, hh⟩ | ⟨k, y, hp, hk, hh⟩
          · have HH := Lib.hid hh
            rw [hp] at HFX
            clear hp hh
            go_upto_region 13 with (first | ((with_reducible refine HFX.out.mono ?_); rintro e wf ⟨rfl, hwf⟩; obtain rfl := hwf))
            have HWV := HW2
            have HOV := HOW
            go_wp2_with (first | ((with_reducible show wpList _ _ _ (⟨some 63, _, _, _, _, _⟩ :: _) _ _); refine wpList_build1 (o := ⟨some 63, _, _, _, _, _⟩) eH (by decide) (⟨x, false, 0⟩) rfl 62 rfl _ rfl (by rfl) ?_) | ((with_reducible show wpList _ _ _ (⟨some 64, _, _, _, _, _⟩ :: _) _ _); refine wpList_appendG (o := ⟨some 64, _, _, _, _, _⟩) eH rfl _ _ rfl w.heap.size _ (O.map (hlOf l)) (by rfl) (HOV.out.alloc _) (_) _ 1 1 [⟨x, false, 0⟩] (by rfl) (RdG.laid eH _ [⟨x, false, 0⟩] 1 rfl _ (rfl)) HLK.out (by simp; exact Nat.le_succ_of_le HWV.out.size) ?_; intro v' w9 ho9 hg9 hv9; have hb9 := Lib.hid ((HWV.out.alloc HWV.out.size (.cells #[.string ⟨x.toArray⟩, .bool false, .int .i64 0] 23)).grown hg9 (by simp; exact Nat.le_succ_of_le HWV.out.size) HOV.out.lt); have ho10 := Lib.hid ho9; clear ho9 hg9 hv9))
            refine ⟨⟨O ++ [x], HNX, Lib.hid (by rw [HMP.out, HH.out]; exact ho10.out), hb9⟩, ?_⟩
            obtain ⟨T9, m9, c9, rfl, hm9, _⟩ := ho10.out.sl
            have := HRM.out
            have := HM.out
            rw [List.length_append, List.length_map, List.length_singleton] at hm9
            simp only [lenV]
            omega
          · have HH := Lib.hid hh
            rw [hp] at HFX
            have hk0 : (0 : Int) ≤ (k : Int) := by omega
            have hkl := (List.getElem?_eq_some_iff.1 hk).1
            have hk1 : (k : Int) < (n : Int) := by rw [HL.out] at hkl; omega
            have hkn : ¬ (k : Int) < 0 := by omega
            obtain ⟨b3, off3, rfl, _⟩ := HX.out.addr (by omega)
            have RX := Lib.hid ((HX.out.below (HW2.out.mono HBB.out)).range hk)
            obtain ⟨LX, hLX⟩ : ∃ L, (hlL y).toArray = L := ⟨_, rfl⟩
            have HLX := Lib.hid hLX
            clear hp hh hk hLX hkl
            go_upto_region 14 with (first | ((with_reducible refine HFX.out.mono ?_); rintro e wf ⟨rfl, hwf⟩; obtain rfl := hwf))
            have HWV := HW2
            have HOV := HOW
            go_wp2_with (first | ((with_reducible show wpList _ _ _ (⟨some 69, _, _, _, _, _⟩ :: _) _ _); refine wpList_loadHl (op := ⟨some 69, _, _, _, _, _⟩) _ rfl (by rfl) b3 (off3 + k * 3) (by rfl) y RX.out _ HLX.out ?_) | ((with_reducible show wpList _ _ _ (⟨some 70, _, _, _, _, _⟩ :: _) _ _); refine wpList_build1 (o := ⟨some 70, _, _, _, _, _⟩) eH (by decide) (y) rfl 69 rfl _ HLX.out (by rfl) ?_) | ((with_reducible show wpList _ _ _ (⟨some 71, _, _, _, _, _⟩ :: _) _ _); refine wpList_appendG (o := ⟨some 71, _, _, _, _, _⟩) eH rfl _ _ rfl w.heap.size _ (O.map (hlOf l)) (by rfl) (HOV.out.alloc _) (_) _ 1 1 [y] (by rfl) (RdG.laid eH _ [y] 1 rfl _ (by rw [← HLX.out]; simp [Enc.cells]; rfl)) HLK.out (by simp; exact Nat.le_succ_of_le HWV.out.size) ?_; intro v' w9 ho9 hg9 hv9; have hb9 := Lib.hid ((HWV.out.alloc HWV.out.size (.cells LX 23)).grown hg9 (by simp; exact Nat.le_succ_of_le HWV.out.size) HOV.out.lt); have ho10 := Lib.hid ho9; clear ho9 hg9 hv9))
            refine ⟨⟨O ++ [x], HNX, Lib.hid (by rw [HMP.out, HH.out]; exact ho10.out), hb9⟩, ?_⟩
            obtain ⟨T9, m9, c9, rfl, hm9, _⟩ := ho10.out.sl
            have := HRM.out
            have := HM.out
            rw [List.length_append, List.length_map, List.length_singleton] at hm9
            simp only [lenV]
            omega
end Go.Proofs.Yteljijjebocbiaa
