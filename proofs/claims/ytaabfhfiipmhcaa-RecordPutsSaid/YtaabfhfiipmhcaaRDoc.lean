/-
  The contracts of the document's answers for layer 5: Put, Next, All, Row, Same, Few.
-/
import Derived.Test.YtaabfhfiipmhcaaRAll
import Derived.BigQuiet
namespace Go.Proofs.Ytaabfhfiipmhcaa
open Go.RowKit Go.Lib

set_option maxRecDepth 100000 in
set_option maxHeartbeats 2000000 in
/-- Put -/
theorem dput_any (A : Option Addr) (len cap : Nat) (xs : List UInt8) (hlen : len ≤ 1048576) (w : World) {B : Nat} (hI : Rd w B A len xs) (hB : B ≤ w.heap.size) :
    Calls Try.prog 13 #[.slice A len cap] w fun e W' => ∃ v, e = .returned v ∧ Own8 W' w.heap.size v (recOf xs) ∧ Below w.heap.size w W' := by
  have hI := hI.more hB
  have hxl := hI.len
  have h3 := uvarint_max hlen
  have HV := Lib.hid (fun W => rvput_any len (by omega) W)
  have hrec : recOf xs = (uvarint len ++ xs) ++ dig (sumOn 0 (uvarint len ++ xs)) 4 := by rw [recOf, headOf, tailOf, hxl]
  rw [hrec]
  clear hrec
  obtain ⟨U, hU⟩ : ∃ U, uvarint len = U := ⟨_, rfl⟩
  rw [hU] at h3 HV ⊢
  have hsl := sumOn_lt 0 (U ++ xs) (by decide)
  have hul : (U ++ xs).length ≤ 1048579 := by rw [List.length_append]; omega
  obtain ⟨S, hS⟩ : ∃ S, sumOn 0 (U ++ xs) = S := ⟨_, rfl⟩
  rw [hS] at hsl ⊢
  have HS := Lib.hid hS
  have HU := Lib.hid hul
  clear hS hU hxl hul
  go_enter Try.func13, Try.ntmps13
  go_wp2_with fail
  refine (HV.out _).mono ?_
  rintro e w1 ⟨u, rfl, hou, hb1⟩
  have z1 := hb1.size
  have hI1 := hI.below hb1
  go_wp2_with (at_builtin; refine wpList_append8 (o := ⟨some 9, _, _, _, _, _⟩) rfl _ _ rfl w.heap.size _ U (by rfl) hou _ _ _ _ xs (by rfl) hI1 (by omega) z1 ?_; intro v2 w2 how2 hg2 _; obtain ⟨A2, m2, c2, rfl, hm2, hmc2, hcm2, hr2⟩ := how2.sl; have HM2 := Lib.hid hm2; clear hm2)
  have B2 : Below w.heap.size w w2 := hb1.grown hg2 z1 hou.lt
  have z2 := B2.size
  clear hI1 hou hg2
  refine (rof_any _ _ _ _ (by rw [HM2.out]; have := HU.out; omega) w2 hr2).mono ?_
  rintro e w4 ⟨rfl, rfl⟩
  rw [HS.out]
  go_wp2_with fail
  refine (rput_any S (by omega) 4 false w2).mono ?_
  rintro e w5 ⟨u5, rfl, ho5, hb5⟩
  rw [bytes4] at ho5
  obtain ⟨A5, m5, c5, rfl, hm5, hmc5, hcm5, hr5⟩ := ho5.sl
  rw [dig_length] at hm5
  subst hm5
  have how5 := how2.below hb5
  have z5 : w.heap.size ≤ w5.heap.size := by have := hb5.size; omega
  clear ho5 hmc5 hcm5
  go_wp2_with (at_builtin; refine wpList_append8 rfl _ _ rfl w.heap.size _ (U ++ xs) (by rfl) how5 _ _ _ _ (dig S 4) (by rfl) hr5 (by have := HU.out; omega) z5 ?_; intro v6 w6 how6 hg6 _)
  have B6 : Below w.heap.size w w6 := (B2.trans (hb5.mono z2)).grown hg6 z5 how5.lt
  go_wp2_with fail
  go_ret
  exact ⟨_, rfl, how6, B6⟩

set_option maxRecDepth 100000 in
set_option maxHeartbeats 2000000 in
/-- Same: true of two slices of the same lists of bytes. -/
theorem dsame_any {w : World} {B B' len : Nat} {A A' : Option Addr} (c c' : Nat) {l : List (List UInt8)} (hlen : len ≤ 100000) (h : LsAt w B A len l) (h' : LsAt w B' A' len l) :
    Calls Try.prog 20 #[.slice A len c, .slice A' len c'] w fun e w' => e = .returned (.bool true) ∧ ∃ n, w' = w.drewN n := by
  have HL := Lib.hid h.size
  have b1 : ((len : Int) != (len : Int)) = false := by simp
  have b2 : (len != len) = false := by simp
  go_enter Try.func20, Try.ntmps20
  go_wp2_with fail
  go_loopw [5] (fun i wr => ∃ k m : Nat, k ≤ len ∧ i = .int .i64 (k : Int) ∧ wr = w.drewN m) (fun i _ => len - (intOf i).toNat)
  case atStart => exact ⟨0, 0, Nat.zero_le _, rfl, rfl⟩
  case round =>
    obtain ⟨k, m, hk, rfl, rfl⟩ := hrel
    by_cases hlt : k < len
    · have hlt' : (k : Int) < (len : Int) := by omega
      have hk0 : (0 : Int) ≤ (k : Int) := by omega
      obtain ⟨b, off, rfl, _, hc⟩ := h.2 (by omega)
      obtain ⟨b', off', rfl, _, hc'⟩ := h'.2 (by omega)
      obtain ⟨p, hp⟩ : ∃ p, l[k]? = some p := ⟨_, List.getElem?_eq_getElem (by rw [HL.out]; exact hlt)⟩
      obtain ⟨A1, l1, c1, x1, _, _, hr1⟩ := hc k p hp
      obtain ⟨A2, l2, c2, y1, _, _, hr2⟩ := hc' k p hp
      have s1 : ∀ n, (convert 22 9 (.slice A1 l1 c1)).run Try.prog (w.drewN n) = .ok (.string ⟨p.toArray⟩) (w.drewN n) := fun n => run_str8 (hr1.drewN n) c1
      have s2 : ∀ n, (convert 22 9 (.slice A2 l2 c2)).run Try.prog (w.drewN n) = .ok (.string ⟨p.toArray⟩) (w.drewN n) := fun n => run_str8 (hr2.drewN n) c2
      clear hc hc' hr1 hr2 hp
      go_wp2_with fail
      go_quiet (fail)
      go_wp2_with fail
      go_roundw
      case rel => exact ⟨k + 1, _, by omega, by go_num, rfl⟩
      case measure => simp [intOf]; omega
    · obtain rfl : k = len := by omega
      go_wp2_with fail
      go_ret
      exact ⟨rfl, _, rfl⟩

/-- Few, and short? -/
def fewL (l : List (List UInt8)) : Bool := decide ((∀ p ∈ l.take 50, p.length ≤ 300) ∧ l.length ≤ 20)
theorem fewL_yes {l : List (List UInt8)} (h : fewL l = true) : (∀ p ∈ l, p.length ≤ 300) ∧ l.length ≤ 20 := by
  obtain ⟨h1, h2⟩ := of_decide_eq_true h
  rw [List.take_of_length_le (by omega)] at h1
  exact ⟨h1, h2⟩

set_option maxRecDepth 100000 in
set_option maxHeartbeats 2000000 in
theorem dfew_any {w : World} {B len : Nat} {A : Option Addr} (c : Nat) {l : List (List UInt8)} (hcm : len ≤ maxLen) (h : LsAt w B A len l) :
    Calls Try.prog 21 #[.slice A len c] w fun e w' => e = .returned (.bool (fewL l)) ∧ w = w' := by
  have HL := Lib.hid h.size
  unfold maxLen at hcm
  obtain ⟨F, hF⟩ : ∃ F, fewL l = F := ⟨_, rfl⟩
  rw [hF]
  have HF := Lib.hid hF
  clear hF
  go_enter Try.func21, Try.ntmps21
  go_wp2_with fail
  go_loop [3] (fun i => ∃ k : Nat, k ≤ len ∧ k ≤ 50 ∧ i = .int .i64 (k : Int) ∧ ∀ p ∈ l.take k, p.length ≤ 300) (fun i => 50 - (intOf i).toNat)
  case atStart => exact ⟨0, Nat.zero_le _, Nat.zero_le _, rfl, by simp⟩
  case round =>
    obtain ⟨k, hk, hk1, rfl, ha⟩ := hrel
    by_cases hlt : k < len ∧ k < 50
    · obtain ⟨l1, l2⟩ := hlt
      have l1' : (k : Int) < (len : Int) := by omega
      have l2' : (k : Int) < 50 := by omega
      have hk0 : (0 : Int) ≤ (k : Int) := by omega
      obtain ⟨b, off, rfl, _, hc⟩ := h.2 (by omega)
      obtain ⟨p, hp⟩ : ∃ p, l[k]? = some p := ⟨_, List.getElem?_eq_getElem (by rw [HL.out]; exact l1)⟩
      obtain ⟨A1, q1, c1, x1, _, _, hr1⟩ := hc k p hp
      have htk : l.take (k + 1) = l.take k ++ [p] := by rw [List.take_add_one, hp]; rfl
      have hql := hr1.len
      by_cases hbig : 300 < q1
      · have hb' : (300 : Int) < (q1 : Int) := by omega
        have hfin : fewL l = false := decide_eq_false (fun hx => by
          have := hx.1 p (by
            have h1 : l.take 50 = l.take (k + 1) ++ (l.drop (k + 1)).take (50 - (k + 1)) := by
              rw [← List.take_add]; congr 1; omega
            rw [h1, htk]; simp)
          omega)
        obtain rfl : F = false := by rw [← HF.out]; exact hfin
        clear hfin hc hr1 hp ha htk hql
        go_wp2_with fail
        go_ret
        exact ⟨rfl, rfl⟩
      · have hb' : decide ((300 : Int) < (q1 : Int)) = false := decide_eq_false (by omega)
        have ha2 : ∀ x ∈ l.take (k + 1), x.length ≤ 300 := by
          intro x hx
          rw [htk] at hx
          rcases List.mem_append.1 hx with hx | hx
          · exact ha x hx
          · rw [List.mem_singleton.1 hx]; omega
        have HA := Lib.hid ha2
        clear hc hr1 hp ha htk hql ha2 hbig
        go_wp2_with fail
        go_round
        case rel => exact ⟨k + 1, by omega, by omega, by go_num, HA.out⟩
        case measure => simp [intOf]; omega
    · have HA := Lib.hid ha
      clear ha
      by_cases h40 : len ≤ 20
      · have h40' : (len : Int) ≤ 20 := by omega
        obtain rfl : k = len := by omega
        have hfin : fewL l = true := decide_eq_true ⟨by
          have := HA.out
          rw [List.take_of_length_le (by rw [HL.out]; omega)] at this
          intro p hp
          exact this p (List.mem_of_mem_take hp), by rw [HL.out]; exact h40⟩
        obtain rfl : F = true := by rw [← HF.out]; exact hfin
        clear hfin hlt
        go_wp2_with fail
        go_ret
        exact ⟨rfl, rfl⟩
      · have h40' : decide ((len : Int) ≤ 20) = false := decide_eq_false (by omega)
        have hfin : fewL l = false := decide_eq_false (fun hx => by have := hx.2; rw [HL.out] at this; omega)
        obtain rfl : F = false := by rw [← HF.out]; exact hfin
        clear hfin
        by_cases hl : k < len
        · have l1' : (k : Int) < (len : Int) := by omega
          have l2' : decide ((k : Int) < 50) = false := decide_eq_false (by omega)
          clear hlt
          go_wp2_with fail
          go_ret
          exact ⟨rfl, rfl⟩
        · have l1' : decide ((k : Int) < (len : Int)) = false := decide_eq_false (by omega)
          have l1'' : decide (k < len) = false := decide_eq_false hl
          clear hlt
          go_wp2_with fail
          go_ret
          exact ⟨rfl, rfl⟩

set_option maxRecDepth 100000 in
set_option maxHeartbeats 2000000 in
/-- Row -/
theorem drow_any (A : Option Addr) (len cap : Nat) (l : List (List UInt8)) (hlen : len ≤ 100000) (hl : ∀ xs ∈ l, xs.length ≤ 1048576) (hrow : (rowOf l).length ≤ 800000000) (w : World) (hI : LsAt w w.heap.size A len l) :
    Calls Try.prog 22 #[.slice A len cap] w fun e W' => ∃ v, e = .returned v ∧ Own8 W' w.heap.size v (rowOf l) ∧ Below w.heap.size w W' := by
  have HL := Lib.hid hI.size
  have HM := Lib.hid hl
  have HT := Lib.hid (fun i => rowOf_mono l (i := i) (j := len))
  have hta : l.take len = l := List.take_of_length_le (by rw [HL.out]; exact Nat.le_refl _)
  rw [hta] at HT
  have HA := Lib.hid hta
  clear hl hta
  go_enter Try.func22, Try.ntmps22
  go_wp2_with fail
  go_loopw [3, 4] (fun v i wr => ∃ k : Nat, k ≤ len ∧ i = .int .i64 (k : Int) ∧ Own8 wr w.heap.size v (rowOf (l.take k)) ∧ Below w.heap.size w wr) (fun _ i _ => len - (intOf i).toNat)
  case atStart => exact ⟨0, Nat.zero_le _, rfl, by rw [List.take_zero]; exact Own8.nil_ _ _, Below.refl _ _⟩
  case round =>
    obtain ⟨k, hk, rfl, hown, hbel⟩ := hrel
    by_cases hlt : k < len
    · have hlt' : (k : Int) < (len : Int) := by omega
      have hk0 : (0 : Int) ≤ (k : Int) := by omega
      obtain ⟨b, off, rfl, _, hc⟩ := (hI.below hbel).2 (by omega)
      obtain ⟨xs, hx⟩ : ∃ xs, l[k]? = some xs := ⟨_, List.getElem?_eq_getElem (by rw [HL.out]; exact hlt)⟩
      obtain ⟨A1, n1, c1, x1, _, _, hr1⟩ := hc k xs hx
      have hxl := HM.out xs (List.mem_of_getElem? hx)
      have hnl := hr1.len
      have hs := rowOf_snoc hx
      have hle := HT.out (k + 1) (by omega)
      have hll := congrArg List.length hs
      rw [List.length_append] at hll
      have h9 : (rowOf (l.take k)).length + (recOf xs).length ≤ 800000000 := by omega
      have HS := Lib.hid hs
      have H9 := Lib.hid h9
      have HV := Lib.hid (fun W h1 h2 => dput_any A1 n1 c1 xs (by omega) W (B := w.heap.size) h1 h2)
      clear hc hx hnl hxl hs hle hll h9
      go_wp2_with fail
      refine (HV.out _ hr1 hbel.size).mono ?_
      rintro e w1 ⟨v1, rfl, ho1, hb1⟩
      obtain ⟨A2, m2, c2, rfl, hm2, _, _, hr2⟩ := ho1.sl
      have how1 := hown.below hb1
      have B1 := hbel.trans (hb1.mono hbel.size)
      have z1 := B1.size
      have HM2 := Lib.hid hm2
      clear hm2 ho1 hown
      go_wp2_with (at_builtin; refine wpList_append8 rfl _ _ rfl w.heap.size _ (rowOf (l.take k)) (by rfl) how1 _ _ _ _ (recOf xs) (by rfl) hr2 (by have := H9.out; have := HM2.out; omega) z1 ?_; intro v3 w3 ho3 hg3 _)
      have B3 := B1.grown hg3 z1 how1.lt
      go_wp2_with fail
      go_roundw
      case rel => exact ⟨k + 1, by omega, by go_num, by rw [HS.out]; exact ho3, B3⟩
      case measure => simp [intOf]; omega
    · obtain rfl : k = len := by omega
      rw [HA.out] at hown
      go_wp2_with fail
      go_ret
      exact ⟨_, rfl, hown, hbel⟩
end Go.Proofs.Ytaabfhfiipmhcaa
