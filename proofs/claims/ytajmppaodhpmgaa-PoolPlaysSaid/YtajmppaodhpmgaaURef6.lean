/-
  What is done, in cells; the document's FewOps.
-/
import Derived.Test.YtajmppaodhpmgaaURef5
namespace Go.Proofs.Ytajmppaodhpmgaa
set_option maxRecDepth 100000
open Go.RowKit Go.Lib

/-- The cells of what is done. -/
def opuL (o : OpU) : List Value := .int .i64 o.kind :: (bkL o.b ++ [strV o.nm, .float .f64 o.wt])
theorem opuL_len (o : OpU) : (opuL o).length = 30 := by
  unfold opuL
  simp [bkL_len o.b]
theorem opuL_one (o : OpU) : ∀ v ∈ opuL o, v.oneCell' = true := by
  intro v hv
  unfold opuL at hv
  rcases List.mem_cons.1 hv with rfl | hv
  · rfl
  · rcases List.mem_append.1 hv with hv | hv
    · exact bkL_one o.b v hv
    · rcases List.mem_cons.1 hv with rfl | hv
      · rfl
      · rw [List.mem_singleton.1 hv]
        rfl
def opuC (o : OpU) : Value := .agg (opuL o).toArray
def opu0 : OpU := ⟨0, bk0, [], 0, by decide⟩
def eO : Enc OpU where
  S := 40
  T := 38
  k := 30
  bytes := 104
  zero := opuC opu0
  f := opuL
  len := opuL_len
  one := opuL_one
  und := Try.underlying40
  info := by kernel_rfl
  pos := by decide
  zlen := rfl
  small := by decide
theorem sizeOpu : (Try.prog.info? 38).map (·.size) = some 30 := by kernel_rfl
theorem opu_kind (o : OpU) : (opuL o)[0]? = some (.int .i64 o.kind) := rfl
theorem opu_bk (o : OpU) {i : Nat} {v : Value} (h : (bkL o.b)[i]? = some v) : (opuL o)[1 + i]? = some v := by
  have hi := (List.getElem?_eq_some_iff.1 h).1
  unfold opuL
  rw [Nat.add_comm, List.getElem?_cons_succ, List.getElem?_append_left hi]
  exact h
theorem opu_bnm (o : OpU) : (opuL o)[1]? = some (strV o.b.nm) := opu_bk o (i := 0) (bk_nm o.b)
theorem opu_nm (o : OpU) : (opuL o)[28]? = some (strV o.nm) := by
  unfold opuL
  rw [List.getElem?_cons_succ, List.getElem?_append_right (by rw [bkL_len]; decide), bkL_len]
  rfl
theorem opu_wt (o : OpU) : (opuL o)[29]? = some (.float .f64 o.wt) := by
  unfold opuL
  rw [List.getElem?_cons_succ, List.getElem?_append_right (by rw [bkL_len]; decide), bkL_len]
  rfl
def fewO (l : List OpU) : Bool := decide (l.length ≤ 60) && l.all fun x => decide (x.nm.length ≤ 60) && decide (x.b.nm.length ≤ 60)
theorem fewO_iff (l : List OpU) : fewO l = true ↔ l.length ≤ 60 ∧ ∀ x, x ∈ l → x.nm.length ≤ 60 ∧ x.b.nm.length ≤ 60 := by
  unfold fewO
  simp
theorem fewO_long {l : List OpU} {j : Nat} {x : OpU} (hx : l[j]? = some x) (h : ¬ (x.nm.length ≤ 60 ∧ x.b.nm.length ≤ 60)) : fewO l = false := by
  apply Bool.eq_false_iff.2
  intro h2
  exact h (((fewO_iff l).1 h2).2 x (List.mem_of_getElem? hx))
theorem fewO_end {l : List OpU} {k : Nat} (hk : ∀ j x, j < k → l[j]? = some x → x.nm.length ≤ 60 ∧ x.b.nm.length ≤ 60) (h : l.length ≤ k ∨ 100 ≤ k ∧ k ≤ l.length) : fewO l = decide ((l.length : Int) ≤ 60) := by
  by_cases h1 : l.length ≤ 60
  · rw [decide_eq_true (by omega)]
    refine (fewO_iff l).2 ⟨h1, fun x hx => ?_⟩
    obtain ⟨j, hj⟩ := List.getElem?_of_mem hx
    have := (List.getElem?_eq_some_iff.1 hj).1
    exact hk j x (by omega) hj
  · rw [decide_eq_false (by omega)]
    apply Bool.eq_false_iff.2
    intro h2
    exact h1 ((fewO_iff l).1 h2).1
set_option maxHeartbeats 4000000 in
theorem rfewO_any {A : Option Addr} {n B : Nat} (c : Nat) {l : List OpU} (hn : n ≤ 9223372036854775807) (w : World) (h : RdG eO w B A n l) :
    Calls Try.prog 18 #[.slice A n c] w fun e w' => e = .returned (.bool (fewO l)) ∧ w' = w := by
  have HX := Lib.hid h
  have HL := Lib.hid h.len
  obtain ⟨R, hRR⟩ : ∃ R, fewO l = R := ⟨_, rfl⟩
  rw [hRR]
  have HF := Lib.hid hRR
  clear h hRR
  go_enter Try.func18, Try.ntmps18
  go_wp2_with fail
  go_loop [3] (fun i => ∃ k : Nat, k ≤ n ∧ k ≤ 100 ∧ i = .int .i64 (k : Int) ∧ Hid (∀ j x, j < k → l[j]? = some x → x.nm.length ≤ 60 ∧ x.b.nm.length ≤ 60))
    (fun i => 200 - (intOf i).toNat)
  case atStart => exact ⟨0, Nat.zero_le _, by omega, rfl, Lib.hid (fun j x hj _ => absurd hj (by omega))⟩
  case round =>
    obtain ⟨k, hk, hk5, rfl, HK⟩ := hrel
    by_cases hlt : k < n ∧ k < 100
    · obtain ⟨hlt, hl5⟩ := hlt
      have h1 : (k : Int) < (n : Int) := by omega
      have h2 : (k : Int) < 100 := by omega
      have h0 : (0 : Int) ≤ (k : Int) := by omega
      obtain ⟨b, off, rfl, _⟩ := HX.out.addr (by omega)
      obtain ⟨x, hx⟩ : ∃ x, l[k]? = some x := ⟨_, List.getElem?_eq_getElem (by rw [HL.out]; exact hlt)⟩
      have q3 : w.cell? ⟨b, off + k * 30 + 28, none⟩ = some (.string ⟨x.nm.toArray⟩) := by
        rw [Nat.add_assoc]
        exact HX.out.cell hx 28 (opu_nm x)
      have q4 : w.cell? ⟨b, off + k * 30 + 1, none⟩ = some (.string ⟨x.b.nm.toArray⟩) := by
        rw [Nat.add_assoc]
        exact HX.out.cell hx 1 (opu_bnm x)
      obtain ⟨m, hm⟩ : ∃ m, x.nm.length = m := ⟨_, rfl⟩
      obtain ⟨m2, hm2⟩ : ∃ m, x.b.nm.length = m := ⟨_, rfl⟩
      have hs : (ByteArray.mk x.nm.toArray).size = m := by rw [← hm]; rfl
      have hs2 : (ByteArray.mk x.b.nm.toArray).size = m2 := by rw [← hm2]; rfl
      have HM := Lib.hid hm
      have HM2 := Lib.hid hm2
      have HXX := Lib.hid hx
      clear hm hx hm2
      by_cases h3 : m ≤ 60
      · have h4 : ¬ 60 < (m : Int) := by omega
        by_cases h6 : m2 ≤ 60
        · have h7 : ¬ 60 < (m2 : Int) := by omega
          clear hlt hl5
          go_wp2_with fail
          go_round
          case rel =>
            refine ⟨k + 1, by omega, by omega, by go_num, Lib.hid (fun j y hj hy => ?_)⟩
            rcases Nat.lt_or_ge j k with h5 | h5
            · exact HK.out j y h5 hy
            · obtain rfl : j = k := by omega
              rw [HXX.out] at hy
              cases hy
              rw [HM.out, HM2.out]
              exact ⟨h3, h6⟩
          case measure => simp [intOf]; omega
        · have h7 : 60 < (m2 : Int) := by omega
          have hv : R = false := by
            rw [← HF.out]
            exact fewO_long HXX.out (by rw [HM.out, HM2.out]; omega)
          subst hv
          clear hlt hl5
          go_wp2_with fail
          go_ret
          exact ⟨rfl, rfl⟩
      · have h4 : 60 < (m : Int) := by omega
        have hv : R = false := by
          rw [← HF.out]
          exact fewO_long HXX.out (by rw [HM.out]; omega)
        subst hv
        clear hlt hl5
        go_wp2_with fail
        go_ret
        exact ⟨rfl, rfl⟩
    · have hv : R = decide ((n : Int) ≤ 60) := by
        rw [← HF.out, ← HL.out]
        exact fewO_end HK.out (by rw [HL.out]; omega)
      subst hv
      by_cases h5 : k < n
      · have h1 : (k : Int) < (n : Int) := by omega
        have h2 : ¬ (k : Int) < 100 := by omega
        go_wp2_with fail
        go_ret
        exact ⟨rfl, rfl⟩
      · have h1 : ¬ (k : Int) < (n : Int) := by omega
        go_wp2_with fail
        go_ret
        exact ⟨rfl, rfl⟩
end Go.Proofs.Ytajmppaodhpmgaa
