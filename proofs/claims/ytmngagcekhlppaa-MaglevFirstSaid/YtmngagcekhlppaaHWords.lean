/-
  The document's Words.
-/
import Derived.Test.YtmngagcekhlppaaHRound
import Derived.Test.YtmngagcekhlppaaHGet
import Derived.Test.YtmngagcekhlppaaGSl
namespace Go.Proofs.Ytmngagcekhlppaa
set_option maxRecDepth 100000
open Go.RowKit Go.Lib
/-- Words in a slice. -/
def eU : Enc Nat where
  S := 73
  T := 24
  k := 1
  bytes := 8
  zero := .int .u64 0
  f x := [.int .u64 (x : Int)]
  len _ := rfl
  one _ v hv := by rw [List.mem_singleton.1 hv]; rfl
  und := Try.underlying73
  info := by kernel_rfl
  pos := by decide
  zlen := rfl
  small := by decide
set_option maxHeartbeats 4000000 in
theorem hwords_any (A : Option Addr) (len cap : Nat) (bs : List UInt8) (hlen : len ≤ 100000) (w : World) (hI : Rd w w.heap.size A len bs) :
    Calls Try.prog 45 #[.slice A len cap] w fun e W' => ∃ v, e = .returned v ∧ OwnG eU W' w.heap.size v (wordsK bs (bs.length / 8 + 1)) ∧ Below w.heap.size w W' := by
  have HL := hI.len
  obtain ⟨q, hq⟩ : ∃ q, bs.length / 8 + 1 = q := ⟨_, rfl⟩
  rw [hq]
  rw [HL] at hq
  have HQ := Lib.hid hq
  have hq2 : q ≤ 20000 := by omega
  have HQ2 := Lib.hid hq2
  clear hq hq2
  have HI := Lib.hid hI
  have HE := Lib.hid (empty8 (base := w.heap.size) w (Nat.le_refl _))
  have HA1 := Lib.hid ((Below.refl w.heap.size w).alloc (Nat.le_refl _) (.cells #[] 5))
  go_enter Try.func45, Try.ntmps45
  go_wp2_with (at_builtin; refine wpList_append8 rfl _ _ rfl w.heap.size _ [] (by rfl) HE.out _ _ _ _ bs (by rfl) (HI.out.alloc (Nat.le_refl _) _) (by simp; omega) (by simp) ?_; intro v1 w1 ho1 hg1 _; have HB1 := Lib.hid (HA1.out.grown hg1 (by simp) HE.out.lt); have HO1 : Hid (Own8 w1 w.heap.size v1 bs) := Lib.hid ho1; clear ho1 hg1)
  go_loopw [3] (fun v wr => ∃ j : Nat, j ≤ 7 - len % 8 ∧ Own8 wr w.heap.size v (bs ++ List.replicate j 0) ∧ Below w.heap.size w wr)
    (fun v _ => 2 * len + 100 - lenOf8 v)
  case atStart => exact ⟨0, Nat.zero_le _, by rw [List.replicate_zero, List.append_nil]; exact HO1.out, HB1.out⟩
  case round =>
    clear HO1 HB1
    obtain ⟨j, hj, hown, hbel⟩ := hrel
    have hsz := hbel.size
    have hln : (bs ++ List.replicate j (0 : UInt8)).length = len + j := by rw [List.length_append, List.length_replicate, HL]
    have HX := Lib.hid hown
    obtain ⟨A2, m, c2, rfl, hm, hc1, hc2, hr2⟩ := hown.sl
    rw [hln] at hm
    subst hm
    by_cases hlt : j < 7 - len % 8
    · have HJ : Hid (j + 1 ≤ 7 - len % 8) := Lib.hid hlt
      have hb : (((len + j : Nat) : Int) % 8 != 7) = true := bne_iff_ne.2 (by omega)
      have hl2 : (bs ++ List.replicate j (0 : UInt8)).length + 1 ≤ 2000000000 := by rw [hln]; omega
      have HSZ := Lib.hid hsz
      have HLN := Lib.hid hl2
      have HBE := Lib.hid hbel
      clear hl2 hlt hln hr2 hc1 hc2 hbel
      go_wp2_with (at_builtin; refine wpList_append8 rfl _ _ rfl w.heap.size _ _ (by rfl) (HX.out.alloc _) _ _ _ _ [0] (by rfl) (Rd.one wr 0) HLN.out (by simp; exact Nat.le_succ_of_le HSZ.out) ?_; intro v' w2 hown' hgrow _)
      have hb2 := (HBE.out.alloc HSZ.out (.cells #[.int .u8 ((0 : UInt8).toNat : Int)] 5)).grown hgrow (by simp; exact Nat.le_succ_of_le HSZ.out) HX.out.lt
      have e1 : bs ++ List.replicate j (0 : UInt8) ++ [0] = bs ++ List.replicate (j + 1) 0 := by rw [List.append_assoc, List.replicate_succ']
      rw [e1] at hown'
      obtain ⟨A3, m3, c3, rfl, hm3, _, _, _⟩ := hown'.sl
      have hl3 : m3 = len + (j + 1) := by rw [hm3, List.length_append, List.length_replicate, HL]
      refine ⟨⟨j + 1, HJ.out, hown', hb2⟩, ?_⟩
      subst hl3
      show 2 * len + 100 - (len + (j + 1)) < 2 * len + 100 - (len + j)
      have := HJ.out
      omega
    · have hje : j = 7 - len % 8 := by omega
      have hb : (((len + j : Nat) : Int) % 8 != 7) = false := by rw [bne_eq_false_iff_eq]; omega
      have hP : Hid (bs ++ List.replicate j (0 : UInt8) ++ [UInt8.ofNat (len % 256)] = padW bs) := Lib.hid (by unfold padW; rw [HL, hje])
      have hx : ((len : Int) % 256) = ((UInt8.ofNat (len % 256)).toNat : Int) := by rw [UInt8.toNat_ofNat']; omega
      obtain ⟨x, hx0⟩ : ∃ x, UInt8.ofNat (len % 256) = x := ⟨_, rfl⟩
      rw [hx0] at hx hP
      have hl2 : (bs ++ List.replicate j (0 : UInt8)).length + 1 ≤ 2000000000 := by rw [hln]; omega
      have HSZ := Lib.hid hsz
      have HLN := Lib.hid hl2
      have HBE := Lib.hid hbel
      have hw2 : IntKind.u8.wrap ((len : Int) % 256) = (x.toNat : Int) := by
        rw [← hx]; show (_ : Int) % 256 = _; omega
      clear hl2 hlt hln hr2 hc1 hc2 hbel hje hx0 hj
      go_wp2_with (at_builtin; refine wpList_append8 rfl _ _ rfl w.heap.size _ _ (by rfl) (HX.out.alloc _) _ _ _ _ [x] (by rfl) (Rd.one wr x) HLN.out (by simp; exact Nat.le_succ_of_le HSZ.out) ?_; intro v4 w4 ho4 hg4 _)
      rw [hP.out] at ho4
      have hb4 := (HBE.out.alloc HSZ.out (.cells #[.int .u8 (x.toNat : Int)] 5)).grown hg4 (by simp; exact Nat.le_succ_of_le HSZ.out) HX.out.lt
      obtain ⟨A4, n4, c4, rfl, hn4, hc41, hc42, hr4⟩ := ho4.sl
      have hpl : n4 = 8 * q := by rw [hn4, padW_len, HL, HQ.out]
      subst hpl
      have HR4 := Lib.hid hr4
      have HB4 := Lib.hid hb4
      have HC4 := Lib.hid hc41
      have HD4 := Lib.hid hc42
      clear hr4 hb4 hn4 ho4 hg4 hc41 hc42 HX HBE HSZ HLN hP hb hx hw2
      have hs4 := HB4.out.size
      have hq2 := HQ2.out
      go_loopw [4, 5] (fun v i wr => ∃ k T : Nat, k ≤ q ∧ T = 8 * k ∧ i = .int .i64 (T : Int) ∧ OwnG eU wr w4.heap.size v (wordsK bs k) ∧ Below w4.heap.size w4 wr)
        (fun _ i _ => 8 * q - (intOf i).toNat)
      case atStart => exact ⟨0, 0, Nat.zero_le _, rfl, rfl, OwnG.nil_ eU _ _, Below.refl _ _⟩
      case round =>
        obtain ⟨k, T, hk, hT, rfl, hown, hbel⟩ := hrel
        have hsz := hbel.size
        by_cases hlt : k < q
        · have h1 : (T : Int) < ((8 * q : Nat) : Int) := by omega
          have h0 : (0 : Int) ≤ (T : Int) := by omega
          have hT8 : T + 8 ≤ 8 * q := by omega
          have hcut := fun W => run_cut8 A4 (8 * q) c4 T 8 (T : Int) ((T : Int) + 8) rfl (by omega) (Nat.le_trans hT8 HC4.out) W
          have hrd := (HR4.out.below hbel).cut (l := T) (n := 8) hT8 c4 HC4.out
          have hwd : getOf (((padW bs).drop T).take 8) false = wordW bs k := by
            rw [get_leN (by rw [List.length_take]; omega), hT, padW_word bs (by rw [HL]; have := HQ.out; omega)]
          have HG := Lib.hid (rget_any (cutA A4 c4 T) 8 (c4 - T) _ false (by omega) wr (hrd.more hsz))
          rw [hwd] at HG
          have HO := Lib.hid hown
          have HS := Lib.hid (wordsK_succ bs k)
          obtain ⟨y, hy⟩ : ∃ y, wordW bs k = y := ⟨_, rfl⟩
          rw [hy] at HG HS
          have HLK : Hid ((wordsK bs k).length + 1 ≤ 100000000) := Lib.hid (by rw [wordsK_len]; omega)
          have HSZ := Lib.hid hsz
          have HBE := Lib.hid hbel
          have HK : Hid (k + 1 ≤ q ∧ T + 8 = 8 * (k + 1)) := Lib.hid ⟨hlt, by omega⟩
          have HM : Hid (T < 8 * q) := Lib.hid (by omega)
          have hTb : T ≤ 200000 := by omega
          clear hy hwd hrd hown hsz hbel hT8 hlt hk hT hq2 hs4
          go_wp2_with (first
            | (with_reducible refine HG.out.mono ?_; rintro e w' ⟨rfl, rfl⟩)
            | (at_builtin; refine wpList_appendG eU rfl _ _ rfl w4.heap.size _ _ (by rfl) (HO.out.alloc _) (wr.heap.size + 1) _ 1 1 [y] (by rfl) (RdG.laid eU wr [y] 1 rfl _ rfl) HLK.out (by simp; exact Nat.le_succ_of_le HSZ.out) ?_; intro v' w5 ho5 hg5 _))
          have hb5 := (HBE.out.alloc HSZ.out (.cells #[.int .u64 (y : Int)] 24)).grown hg5 (by simp; exact Nat.le_succ_of_le HSZ.out) HO.out.lt
          rw [← HS.out] at ho5
          refine ⟨⟨k + 1, T + 8, HK.out.1, HK.out.2, rfl, ho5, hb5⟩, ?_⟩
          have hm := HM.out
          simp [intOf]
          omega
        · obtain rfl : k = q := by omega
          have h1 : ¬ (T : Int) < ((8 * k : Nat) : Int) := by omega
          have HO := Lib.hid (hown.base_le HB4.out.size)
          have HBE := Lib.hid (HB4.out.trans (hbel.mono HB4.out.size))
          clear hown hbel hT hlt hk hsz hs4 hq2
          go_wp2_with fail
          go_ret
          exact ⟨_, rfl, HO.out, HBE.out⟩
end Go.Proofs.Ytmngagcekhlppaa
