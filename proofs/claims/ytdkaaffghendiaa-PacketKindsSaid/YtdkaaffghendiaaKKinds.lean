/-
  Frames of IPv4 of which a byte is another one, their header's checksum mended: how they are read; the statements' mended.
-/
import Derived.Test.YtdkaaffghendiaaKLaw2
namespace Go.Proofs.Ytdkaaffghendiaa
set_option maxRecDepth 100000
open Go.RowKit Go.Lib

/-- A frame's bytes with the checksum of its IP header mended. -/
def mendZ (bs : List UInt8) : List UInt8 := (bs.set 24 0).set 25 0
def mendC (bs : List UInt8) : Nat := ckOf (((mendZ bs).drop 14).take 20)
def mendL (bs : List UInt8) : List UInt8 := ((mendZ bs).set 24 (UInt8.ofNat (mendC bs / 256))).set 25 (UInt8.ofNat (mendC bs % 256))
theorem mendZ_len (bs : List UInt8) : (mendZ bs).length = bs.length := by unfold mendZ; rw [List.length_set, List.length_set]
theorem mendL_len (bs : List UInt8) : (mendL bs).length = bs.length := by unfold mendL; rw [List.length_set, List.length_set, mendZ_len]
theorem mend_hdr (a b : UInt8) (O T I W L P c : Nat) (s d F : List UInt8) (hs : s.length = 4) (hd : d.length = 4) :
    mendL ([0, 0, 0, 0, 0, 0, 0, 0, 0, 0, 0, 0, a, b] ++ (hdr O T I W L P c s d ++ F)) = [0, 0, 0, 0, 0, 0, 0, 0, 0, 0, 0, 0, a, b] ++ (hdr O T I W L P (ckOf (hdr O T I W L P 0 s d)) s d ++ F) := by
  have hz : mendZ ([0, 0, 0, 0, 0, 0, 0, 0, 0, 0, 0, 0, a, b] ++ (hdr O T I W L P c s d ++ F)) = [0, 0, 0, 0, 0, 0, 0, 0, 0, 0, 0, 0, a, b] ++ (hdr O T I W L P 0 s d ++ F) := rfl
  have hc : mendC ([0, 0, 0, 0, 0, 0, 0, 0, 0, 0, 0, 0, a, b] ++ (hdr O T I W L P c s d ++ F)) = ckOf (hdr O T I W L P 0 s d) := by
    unfold mendC
    rw [hz]
    congr 1
    show (hdr O T I W L P 0 s d ++ F).take 20 = _
    rw [List.take_append_of_le_length (by rw [hdr_len _ _ _ _ _ _ _ _ _ hs hd]; exact Nat.le_refl _), List.take_of_length_le (by rw [hdr_len _ _ _ _ _ _ _ _ _ hs hd]; exact Nat.le_refl _)]
  unfold mendL
  rw [hc, hz]
  rfl
def lkT (k : Nat) : Lk := { Lk.zero with ty := (k : Int) }
theorem lkT_six (k : Nat) : (lkT k).Six := ⟨rfl, rfl⟩
theorem lkT_4 : lkB (lkT 2048) = [0, 0, 0, 0, 0, 0, 0, 0, 0, 0, 0, 0, 8, 0] := rfl
theorem lkT_k (k : Nat) : lkB (lkT k) = [0, 0, 0, 0, 0, 0, 0, 0, 0, 0, 0, 0, UInt8.ofNat (k / 256), UInt8.ofNat (k % 256)] := by
  unfold lkB lkT be2_7
  simp [Lk.zero, zeros6, tsB]
theorem read_4 (X : List UInt8) : readK ([0, 0, 0, 0, 0, 0, 0, 0, 0, 0, 0, 0, 8, 0] ++ X) = behind 14 X (nt4 X) := by
  rw [← lkT_4]
  have hb := rdOf_back (lkT_six 2048) (by rfl) X
  have hat : atK (lkB (lkT 2048) ++ X) = 14 := by unfold atK; rw [hb]; rfl
  rw [readK_4 (by rw [hb]) (by rw [hb]; rfl), hat]
  rfl
theorem read_alien {k : Nat} (hk : k < 65536) (h1 : k ≠ 2048) (h2 : k ≠ 34525) (h3 : k ≠ 33024) (h4 : k ≠ 34984) (X : List UInt8) : readK ([0, 0, 0, 0, 0, 0, 0, 0, 0, 0, 0, 0, UInt8.ofNat (k / 256), UInt8.ofNat (k % 256)] ++ X) = kindK 2 := by
  rw [← lkT_k k]
  have hr : rightB_7 (lkT k) = true := by
    have e1 : fitsB (k : Int) = true := decide_eq_true (by omega)
    have e2 : isTg (k : Int) = false := decide_eq_false (by omega)
    show (decide (([] : List Tg).length ≤ 2) && (([] : List Tg).all tgOk && (fitsB (k : Int) && !isTg (k : Int)))) = true
    rw [e1, e2]
    rfl
  have hb := rdOf_back (lkT_six k) hr X
  unfold readK
  rw [hb]
  rw [if_neg (by simp), if_neg (by show ¬ (k : Int) = 2048; omega), if_neg (by show ¬ (k : Int) = 34525; omega)]
section
variable {t : Tu} {n : Nat}
def fourP (t : Tu) (n p : Nat) : Fr := ⟨20, ((20 + n : Nat) : Int), 0, 0, false, true, 64, (p : Int), t.s, t.d⟩
theorem fourP_ok (ho : t.Ok) (p : Nat) : (fourP t n p).Ok := ⟨ho.s, ho.d⟩
theorem fourP_right {L : Lk} {f : Int} (h : MakeOk L t f) (hs : t.s.six = false) (hn : 20 + n ≤ 65535) {p : Nat} (hp : p < 256) : rightB (fourP t n p) = true := by
  have hf := h.fam
  unfold famB at hf
  rw [hs] at hf
  simp only [Bool.false_or, Bool.and_eq_true] at hf
  have hp : inB (p : Int) 0 255 = true := decide_eq_true (by omega)
  have ht : inB ((20 + n : Nat) : Int) 20 65535 = true := decide_eq_true (by omega)
  unfold rightB fourP
  simp only
  rw [ht, hp, hf.2.1, hf.2.2]
  rfl
/-- The bytes of a frame, with the protocol p and the flags W. -/
def frmK (t : Tu) (n p W : Nat) (F : List UInt8) : List UInt8 := [0, 0, 0, 0, 0, 0, 0, 0, 0, 0, 0, 0, 8, 0] ++ (putW (fourP t n p) W ++ F)
theorem make_frm {f : Int} {load : List UInt8} (hm : MakeOk Lk.zero t f) (hs : t.s.six = false) : makeK Lk.zero t f load = frmK t (shN_ t + load.length) t.pr.toNat 16384 (fillK t f load) := by
  have hty : typedL Lk.zero t = lkT 2048 := by unfold typedL tyOf; rw [hs]; rfl
  have hp : (t.pr.toNat : Int) = t.pr := by have := hm.pr; omega
  have e4 : four4 t (shN_ t + load.length) = fourP t (shN_ t + load.length) t.pr.toNat := by unfold four4 fourP; rw [hp]
  unfold makeK ipK headK frmK
  rw [hty, lkT_4, hs, segK_len, e4]
  rfl
theorem putW_hdr (p W : Nat) : putW (fourP t n p) W = hdr 0 (20 + n) 0 W 64 p (ckOf (hdr 0 (20 + n) 0 W 64 p 0 (t.s.b.take 4) (t.d.b.take 4))) (t.s.b.take 4) (t.d.b.take 4) := rfl
variable (ho : t.Ok)
include ho
theorem t4 : (t.s.b.take 4).length = 4 ∧ (t.d.b.take 4).length = 4 := by
  rw [List.length_take, List.length_take, ho.s, ho.d]
  exact ⟨rfl, rfl⟩
/-- Another protocol, mended. -/
theorem frm_proto (p q W : Nat) (F : List UInt8) : mendL ((frmK t n p W F).set 23 (UInt8.ofNat q)) = frmK t n q W F := by
  obtain ⟨h1, h2⟩ := t4 ho
  unfold frmK
  rw [putW_hdr, putW_hdr, ← mend_hdr 8 0 0 (20 + n) 0 W 64 q _ _ _ F h1 h2]
  rfl
/-- The bit of more fragments, mended. -/
theorem frm_frag (p : Nat) (F : List UInt8) : mendL ((frmK t n p 16384 F).set 20 96) = frmK t n p 24576 F := by
  obtain ⟨h1, h2⟩ := t4 ho
  unfold frmK
  rw [putW_hdr, putW_hdr, ← mend_hdr 8 0 0 (20 + n) 0 24576 64 p _ _ _ F h1 h2]
  rfl
omit ho in
theorem frm_20 (p : Nat) (F : List UInt8) : (frmK t n p 16384 F)[20]? = some 64 ∧ (frmK t n p 16384 F)[22]? = some 64 := ⟨rfl, rfl⟩
theorem frm_read {f : Int} (hm : MakeOk Lk.zero t f) (hs : t.s.six = false) (hn : 20 + n ≤ 65535) {p : Nat} (hp : p < 256) {W : Nat} (hW : W < 65536) {F : List UInt8} (hF : F.length = n) :
    ∃ N : Nt, N.e = 0 ∧ N.frag = decide (W % 16384 ≠ 0) ∧ N.proto = p ∧ readK (frmK t n p W F) = behind 14 (putW (fourP t n p) W ++ F) N := by
  have hok := fourP_ok (n := n) ho p
  obtain ⟨q1, q2⟩ := put_back hok (fourP_right hm hs hn hp) hW F (by rw [List.length_append, putW_len hok, hF]; show ((20 + n : Nat) : Int) ≤ _; omega)
  have ne := nt4_e (putW (fourP t n p) W ++ F)
  obtain ⟨n1, n2, n3, n4, n5, n6⟩ := nt4_fr (putW (fourP t n p) W ++ F)
  rw [q2] at n3 n4
  have m4 : (p : Int) = _ := n4
  exact ⟨nt4 (putW (fourP t n p) W ++ F), ne.trans q1, n3.symm, by omega, read_4 _⟩
theorem frm_alien {f : Int} (hm : MakeOk Lk.zero t f) (hs : t.s.six = false) (hn : 20 + n ≤ 65535) {p : Nat} (hp : p < 256) (h6 : p ≠ 6) (h17 : p ≠ 17) {F : List UInt8} (hF : F.length = n) : readK (frmK t n p 16384 F) = kindK 5 := by
  obtain ⟨N, e1, e2, e3, e4⟩ := frm_read ho hm hs hn hp (W := 16384) (by decide) hF
  rw [e4]
  exact behind_5 e1 (by rw [e2]; rfl) (by rw [e3]; exact ⟨h6, h17⟩)
theorem frm_more {f : Int} (hm : MakeOk Lk.zero t f) (hs : t.s.six = false) (hn : 20 + n ≤ 65535) {p : Nat} (hp : p < 256) {F : List UInt8} (hF : F.length = n) : readK (frmK t n p 24576 F) = kindK 4 := by
  obtain ⟨N, e1, e2, e3, e4⟩ := frm_read ho hm hs hn hp (W := 24576) (by decide) hF
  rw [e4]
  exact behind_4 e1 (by rw [e2]; rfl)
omit ho in
theorem xor_not : ∀ m : Nat, m < 256 → 64 ^^^ (m ||| 1) ≠ 64 ∧ 64 ^^^ (m ||| 1) < 256 := by decide +kernel
theorem frm_spoilt {p m : Nat} (hm : m < 256) (F : List UInt8) : readK ((frmK t n p 16384 F).set 22 (UInt8.ofNat (64 ^^^ (m ||| 1)))) = kindK 3 := by
  obtain ⟨h1, h2⟩ := xor_not m hm
  have hok := fourP_ok (n := n) ho p
  have hset : (frmK t n p 16384 F).set 22 (UInt8.ofNat (64 ^^^ (m ||| 1))) = [0, 0, 0, 0, 0, 0, 0, 0, 0, 0, 0, 0, 8, 0] ++ (putF (fourP t n p) ++ F).set 8 (UInt8.ofNat (64 ^^^ (m ||| 1))) := rfl
  rw [hset, read_4]
  have hne : (64 : UInt8) ≠ UInt8.ofNat (64 ^^^ (m ||| 1)) := by
    intro e
    have := congrArg UInt8.toNat e
    rw [UInt8.toNat_ofNat', Nat.mod_eq_of_lt h2] at this
    exact h1 this.symm
  have hf := putF_spoilt hok F 8 (by decide) 64 _ rfl hne (by omega)
  exact behind_3 (by rw [nt4_e]; exact hf)
end
theorem wsum_two (l : List UInt8) (k : Nat) {a b : UInt8} (h1 : l[2 * k]? = some a) (h2 : l[2 * k + 1]? = some b) : wsum false (l.take (2 * (k + 1))) = wsum false (l.take (2 * k)) + (256 * a.toNat + b.toNat) := by
  have hl : 2 * k + 1 < l.length := (List.getElem?_eq_some_iff.1 h2).1
  have e : l.take (2 * (k + 1)) = l.take (2 * k) ++ [a, b] := by
    rw [show 2 * (k + 1) = (2 * k + 1) + 1 by omega, List.take_add_one, List.take_add_one, h1, h2]
    simp
  rw [e, wsum_append]
  have ht : turnOdd false (l.take (2 * k)).length = false := by
    unfold turnOdd
    rw [List.length_take, Nat.min_eq_left (by omega), if_neg (by omega)]
  rw [ht]
  simp [wsum]
set_option maxHeartbeats 8000000 in
/-- The statements' mended. -/
theorem mend_any {w : World} {g n c base : Nat} {bs : List UInt8} (hown : Own8 w base (.slice (some ⟨g, 0, none⟩) n c) bs) (hn : bs.length = n) (h34 : 34 ≤ n) (hb : n ≤ 1000000) :
    Calls Try.prog 18 #[.slice (some ⟨g, 0, none⟩) n c] w fun e w' => e = .returned (.slice (some ⟨g, 0, none⟩) n c) ∧ Own8 w' base (.slice (some ⟨g, 0, none⟩) n c) (mendL bs) ∧ w.grownBy w' (some g) := by
  have HO := Lib.hid hown
  have HN := Lib.hid hn
  have HN2 := Lib.hid (show (bs.set 24 0).length = n by rw [List.length_set]; exact hn)
  have HZL := Lib.hid ((mendZ_len bs).trans hn)
  have HZ := Lib.hid (show (bs.set 24 0).set 25 0 = mendZ bs from rfl)
  have h24 : 24 < n := by omega
  have h25 : 25 < n := by omega
  obtain ⟨H, hH⟩ : ∃ H, (mendZ bs).drop 14 = H := ⟨_, rfl⟩
  have HMC := Lib.hid (show mendC bs = 65535 - nrm (wsum false (H.take 20)) by unfold mendC ckOf rsumOf; rw [hH])
  have HML := Lib.hid (show ((mendZ bs).set 24 (UInt8.ofNat (mendC bs / 256))).set 25 (UInt8.ofNat (mendC bs % 256)) = mendL bs from rfl)
  have HHZ := Lib.hid (fun i => show H[i]? = (mendZ bs)[14 + i]? by rw [← hH, List.getElem?_drop])
  obtain ⟨Z, hZ⟩ : ∃ Z, mendZ bs = Z := ⟨_, rfl⟩
  rw [hZ] at HZL HZ HML HHZ
  clear hown hn hH hZ
  go_enter Try.func18, Try.ntmps18
  go_wp2_with (first
    | ((with_reducible show wpList _ _ _ (⟨none, .store 5 (.tmp 6) _, _, _, _, _⟩ :: _) _ _); refine wpList_storeOG rfl (.tmp 6) _ rfl g 24 (by rfl) (0 : UInt8) 0 (by rfl) (by rfl) bs n c base HN.out HO.out (by omega) ?_; intro wa hoa hga; have HOa := Lib.hid hoa; have HGa := Lib.hid hga; clear hoa hga)
    | ((with_reducible show wpList _ _ _ (⟨none, .store 5 (.tmp 8) _, _, _, _, _⟩ :: _) _ _); refine wpList_storeOG rfl (.tmp 8) _ rfl g 25 (by rfl) (0 : UInt8) 0 (by rfl) (by rfl) (bs.set 24 0) n c base HN2.out HOa.out (by omega) ?_; intro wb hob hgb; rw [HZ.out] at hob; have HOb := Lib.hid hob; have HGb := Lib.hid (gb_trans HGa.out hgb); clear hob hgb))
  go_loopw [3, 4] (fun v i wr => ∃ k : Nat, k ≤ 10 ∧ v = .int .i64 ((wsum false (H.take (2 * k)) : Nat) : Int) ∧ i = .int .i64 ((14 + 2 * k : Nat) : Int) ∧ Own8 wr base (.slice (some ⟨g, 0, none⟩) n c) Z ∧ w.grownBy wr (some g)) (fun _ i _ => 34 - (intOf i).toNat)
  case atStart => exact ⟨0, by omega, rfl, rfl, HOb.out, HGb.out⟩
  case round =>
    obtain ⟨k, hk, rfl, rfl, ho, hg⟩ := hrel
    have HOR := Lib.hid ho
    have HGR := Lib.hid hg
    clear ho hg
    by_cases hlt : k < 10
    · obtain ⟨a, ha⟩ : ∃ a, Z[14 + 2 * k]? = some a := ⟨_, List.getElem?_eq_getElem (by rw [HZL.out]; omega)⟩
      obtain ⟨b, hb2⟩ : ∃ b, Z[14 + 2 * k + 1]? = some b := ⟨_, List.getElem?_eq_getElem (by rw [HZL.out]; omega)⟩
      have HWS := Lib.hid (wsum_two H k (by rw [HHZ.out]; exact ha) (by rw [HHZ.out]; exact hb2))
      have hwl := wsum_le (H.take (2 * k)) false
      have htl : (H.take (2 * k)).length ≤ 20 := by rw [List.length_take]; omega
      have HA := Lib.hid ha
      have HBB := Lib.hid hb2
      obtain ⟨S, hS⟩ : ∃ S, wsum false (H.take (2 * k)) = S := ⟨_, rfl⟩
      obtain ⟨I, hI⟩ : ∃ I, 14 + 2 * k = I := ⟨_, rfl⟩
      obtain ⟨x, hx⟩ : ∃ x, a.toNat = x := ⟨_, rfl⟩
      obtain ⟨y, hy⟩ : ∃ y, b.toNat = y := ⟨_, rfl⟩
      have hxl : x < 256 := hx ▸ a.toNat_lt
      have hyl : y < 256 := hy ▸ b.toNat_lt
      rw [hS] at hwl HWS ⊢
      rw [hI] at HA HBB ⊢
      rw [hx, hy] at HWS
      have hI34 : (I : Int) < 34 := by omega
      have hIb : decide ((I : Int) < 34) = true := decide_eq_true hI34
      have hIn : I < n := by omega
      have hIn2 : I + 1 < n := by omega
      have v1 : IntKind.i64.wrap (256 * (x : Int)) = 256 * (x : Int) := by rw [IntKind.wrap_i64]; omega
      have v2 : IntKind.i64.wrap ((S : Int) + 256 * (x : Int)) = (S : Int) + 256 * (x : Int) := by rw [IntKind.wrap_i64]; omega
      have v3 : IntKind.i64.wrap ((S : Int) + 256 * (x : Int) + (y : Int)) = (S : Int) + 256 * (x : Int) + (y : Int) := by rw [IntKind.wrap_i64]; omega
      obtain ⟨J, hJ⟩ : ∃ J, I + 1 = J := ⟨_, rfl⟩
      obtain ⟨M2, hM2⟩ : ∃ J, I + 2 = J := ⟨_, rfl⟩
      rw [hJ] at HBB hIn2
      have v4 : IntKind.i64.wrap ((I : Int) + 1) = (J : Int) := by rw [IntKind.wrap_i64]; omega
      have v5 : IntKind.i64.wrap ((I : Int) + 2) = (M2 : Int) := by rw [IntKind.wrap_i64]; omega
      have v6 : IntKind.i64.wrap (x : Int) = (x : Int) := by rw [IntKind.wrap_i64]; omega
      have v7 : IntKind.i64.wrap (y : Int) = (y : Int) := by rw [IntKind.wrap_i64]; omega
      have HC1 := Lib.hid (fun W (hW : Below wr.heap.size wr W) => hx ▸ (HOR.out.below hW).byte HA.out)
      have HC2 := Lib.hid (fun W (hW : Below wr.heap.size wr W) => hy ▸ (HOR.out.below hW).byte HBB.out)
      have HSN := Lib.hid (show wsum false (H.take (2 * (k + 1))) = S + (256 * x + y) from HWS.out)
      have HSV := Lib.hid (show Value.int .i64 ((S : Int) + 256 * (x : Int) + (y : Int)) = .int .i64 ((wsum false (H.take (2 * (k + 1))) : Nat) : Int) by rw [HSN.out, Int.natCast_add, Int.natCast_add, Int.natCast_mul, ← Int.add_assoc]; rfl)
      have HIE := Lib.hid (show 14 + 2 * (k + 1) = M2 by omega)
      have HKL := Lib.hid (show k + 1 ≤ 10 from hlt)
      have HIM := Lib.hid (show 34 - M2 < 34 - I by omega)
      clear hJ hM2 hS hI hx hy hwl htl ha hb2 hlt
      go_wp2_with fail
      refine wp_region_held_drew (S := fun W => Below wr.heap.size wr W) (by kernel_rfl) ((Below.refl _ _).drew) (fun hHeld => ?_)
      obtain ⟨X, hX⟩ : ∃ X, wr.drew = X := ⟨_, rfl⟩
      rw [hX] at hHeld ⊢
      clear hX
      refine wpAnyH_take (i := 0) (oi := ⟨some 13, _, _, _, _, _⟩) (v := .int .i64 (S : Int)) rfl (by kernel_rfl) (by kernel_rfl) (by kernel_rfl) (fun _ _ _ h => h) (Or.inl ⟨by rfl, fun _ _ => by go_simp⟩) hHeld ?_
      simp only [Act.put, List.setIfInBounds_toArray, List.set_cons_zero, List.set_cons_succ]
      refine wpAnyH_take (i := 1) (oi := ⟨some 14, _, _, _, _, _⟩) (v := .slice (some ⟨g, 0, none⟩) n c) rfl (by kernel_rfl) (by kernel_rfl) (by kernel_rfl) (fun _ _ _ h => h) (Or.inl ⟨by rfl, fun _ _ => by go_simp⟩) hHeld ?_
      simp only [Act.put, List.setIfInBounds_toArray, List.set_cons_zero, List.set_cons_succ]
      refine wpAnyH_take (i := 2) (oi := ⟨some 15, _, _, _, _, _⟩) (v := .int .i64 (I : Int)) rfl (by kernel_rfl) (by kernel_rfl) (by kernel_rfl) (fun _ _ _ h => h) (Or.inl ⟨by rfl, fun _ _ => by go_simp⟩) hHeld ?_
      simp only [Act.put, List.setIfInBounds_toArray, List.set_cons_zero, List.set_cons_succ]
      refine wpAnyH_take (i := 3) (oi := ⟨some 16, _, _, _, _, _⟩) (v := .pointer (some ⟨g, I, none⟩)) rfl (by kernel_rfl) (by kernel_rfl) (by kernel_rfl) (fun _ _ _ h => h) (Or.inl ⟨by rfl, fun _ _ => by go_simp⟩) hHeld ?_
      simp only [Act.put, List.setIfInBounds_toArray, List.set_cons_zero, List.set_cons_succ]
      refine wpAnyH_take (i := 4) (oi := ⟨some 17, _, _, _, _, _⟩) (v := .int .u8 (x : Int)) rfl (by kernel_rfl) (by kernel_rfl) (by kernel_rfl) (fun _ _ _ h => h) (Or.inl ⟨by rfl, fun W hW => by have hc := HC1.out W hW; go_simp⟩) hHeld ?_
      simp only [Act.put, List.setIfInBounds_toArray, List.set_cons_zero, List.set_cons_succ]
      refine wpAnyH_take (i := 5) (oi := ⟨some 18, _, _, _, _, _⟩) (v := .int .i64 (x : Int)) rfl (by kernel_rfl) (by kernel_rfl) (by kernel_rfl) (fun _ _ _ h => h) (Or.inl ⟨by rfl, fun _ _ => by go_simp⟩) hHeld ?_
      simp only [Act.put, List.setIfInBounds_toArray, List.set_cons_zero, List.set_cons_succ]
      refine wpAnyH_take (i := 6) (oi := ⟨some 19, _, _, _, _, _⟩) (v := .int .i64 (256 * (x : Int))) rfl (by kernel_rfl) (by kernel_rfl) (by kernel_rfl) (fun _ _ _ h => h) (Or.inl ⟨by rfl, fun _ _ => by go_simp⟩) hHeld ?_
      simp only [Act.put, List.setIfInBounds_toArray, List.set_cons_zero, List.set_cons_succ]
      refine wpAnyH_take (i := 7) (oi := ⟨some 20, _, _, _, _, _⟩) (v := .int .i64 ((S : Int) + 256 * (x : Int))) rfl (by kernel_rfl) (by kernel_rfl) (by kernel_rfl) (fun _ _ _ h => h) (Or.inl ⟨by rfl, fun _ _ => by go_simp⟩) hHeld ?_
      simp only [Act.put, List.setIfInBounds_toArray, List.set_cons_zero, List.set_cons_succ]
      refine wpAnyH_take (i := 8) (oi := ⟨some 21, _, _, _, _, _⟩) (v := .slice (some ⟨g, 0, none⟩) n c) rfl (by kernel_rfl) (by kernel_rfl) (by kernel_rfl) (fun _ _ _ h => h) (Or.inl ⟨by rfl, fun _ _ => by go_simp⟩) hHeld ?_
      simp only [Act.put, List.setIfInBounds_toArray, List.set_cons_zero, List.set_cons_succ]
      refine wpAnyH_take (i := 9) (oi := ⟨some 22, _, _, _, _, _⟩) (v := .int .i64 (I : Int)) rfl (by kernel_rfl) (by kernel_rfl) (by kernel_rfl) (fun _ _ _ h => h) (Or.inl ⟨by rfl, fun _ _ => by go_simp⟩) hHeld ?_
      simp only [Act.put, List.setIfInBounds_toArray, List.set_cons_zero, List.set_cons_succ]
      refine wpAnyH_take (i := 10) (oi := ⟨some 23, _, _, _, _, _⟩) (v := .int .i64 (J : Int)) rfl (by kernel_rfl) (by kernel_rfl) (by kernel_rfl) (fun _ _ _ h => h) (Or.inl ⟨by rfl, fun _ _ => by go_simp⟩) hHeld ?_
      simp only [Act.put, List.setIfInBounds_toArray, List.set_cons_zero, List.set_cons_succ]
      refine wpAnyH_take (i := 11) (oi := ⟨some 24, _, _, _, _, _⟩) (v := .pointer (some ⟨g, J, none⟩)) rfl (by kernel_rfl) (by kernel_rfl) (by kernel_rfl) (fun _ _ _ h => h) (Or.inl ⟨by rfl, fun _ _ => by go_simp⟩) hHeld ?_
      simp only [Act.put, List.setIfInBounds_toArray, List.set_cons_zero, List.set_cons_succ]
      refine wpAnyH_take (i := 12) (oi := ⟨some 25, _, _, _, _, _⟩) (v := .int .u8 (y : Int)) rfl (by kernel_rfl) (by kernel_rfl) (by kernel_rfl) (fun _ _ _ h => h) (Or.inl ⟨by rfl, fun W hW => by have hc := HC2.out W hW; go_simp⟩) hHeld ?_
      simp only [Act.put, List.setIfInBounds_toArray, List.set_cons_zero, List.set_cons_succ]
      refine wpAnyH_take (i := 13) (oi := ⟨some 26, _, _, _, _, _⟩) (v := .int .i64 (y : Int)) rfl (by kernel_rfl) (by kernel_rfl) (by kernel_rfl) (fun _ _ _ h => h) (Or.inl ⟨by rfl, fun _ _ => by go_simp⟩) hHeld ?_
      simp only [Act.put, List.setIfInBounds_toArray, List.set_cons_zero, List.set_cons_succ]
      refine wpAnyH_take (i := 14) (oi := ⟨some 27, _, _, _, _, _⟩) (v := .int .i64 ((S : Int) + 256 * (x : Int) + (y : Int))) rfl (by kernel_rfl) (by kernel_rfl) (by kernel_rfl) (fun _ _ _ h => h) (Or.inl ⟨by rfl, fun _ _ => by go_simp⟩) hHeld ?_
      simp only [Act.put, List.setIfInBounds_toArray, List.set_cons_zero, List.set_cons_succ]
      refine wpAnyH_take (i := 15) (oi := ⟨some 3, _, _, _, _, _⟩) (v := .int .i64 ((S : Int) + 256 * (x : Int) + (y : Int))) rfl (by kernel_rfl) (by kernel_rfl) (by kernel_rfl) (fun _ _ _ h => h) (Or.inl ⟨by rfl, fun _ _ => by go_simp⟩) hHeld ?_
      simp only [Act.put, List.setIfInBounds_toArray, List.set_cons_zero, List.set_cons_succ]
      refine wpAnyH_done (by kernel_rfl) ?_ _
      have HO5 := Lib.hid (HOR.out.below hHeld)
      have HG5 := Lib.hid (gb_below HGR.out hHeld HGR.out.size)
      clear hHeld HC1 HC2
      go_wp2_with fail
      go_roundw
      case rel => exact ⟨k + 1, HKL.out, HSV.out, by rw [HIE.out], HO5.out, HG5.out⟩
      case measure => simp [intOf]; have := HIM.out; omega
    · obtain rfl : k = 10 := by omega
      have hwl := wsum_le (H.take (2 * 10)) false
      have htl : (H.take (2 * 10)).length ≤ 20 := by rw [List.length_take]; omega
      obtain ⟨S, hS⟩ : ∃ S, wsum false (H.take (2 * 10)) = S := ⟨_, rfl⟩
      rw [hS] at hwl ⊢
      have HSS := Lib.hid (show mendC bs = 65535 - nrm S by rw [HMC.out]; show 65535 - nrm (wsum false (H.take (2 * 10))) = _; rw [hS])
      have hSl : S ≤ 2000000 := by omega
      clear hS hwl htl hlt hk
      go_wp2_with fail
      go_loopw [3] (fun v ws => ∃ m : Nat, m ≤ 2000000 ∧ v = .int .i64 (m : Int) ∧ nrm m = nrm S ∧ Own8 ws base (.slice (some ⟨g, 0, none⟩) n c) Z ∧ w.grownBy ws (some g)) (fun v _ => (intOf v).toNat)
      case atStart => exact ⟨S, hSl, rfl, rfl, HOR.out, HGR.out⟩
      case round =>
        obtain ⟨m, hm, rfl, hmn, ho, hg⟩ := hrel
        have HO6 := Lib.hid ho
        have HG6 := Lib.hid hg
        have HMN := Lib.hid hmn
        clear ho hg hmn
        by_cases hlt : 65535 < m
        · have q1 : (65535 : Int) < (m : Int) := by omega
          have q2 : decide ((65535 : Int) < (m : Int)) = true := decide_eq_true q1
          have q3 : IntKind.i64.wrap ((m : Int) - 65535) = ((m - 65535 : Nat) : Int) := by rw [IntKind.wrap_i64]; omega
          have HNL := Lib.hid ((nrm_less hlt).trans HMN.out)
          go_wp2_with fail
          go_roundw
          case rel => exact ⟨m - 65535, by omega, rfl, HNL.out, HO6.out, HG6.out⟩
          case measure => simp [intOf]; omega
        · have q1 : ¬ (65535 : Int) < (m : Int) := by omega
          have q2 : decide ((65535 : Int) < (m : Int)) = false := decide_eq_false q1
          have hck : mendC bs = 65535 - m := by rw [HSS.out, ← HMN.out, nrm_small (by omega)]
          have HCK := Lib.hid hck
          obtain ⟨CK, hCK⟩ : ∃ C, 65535 - m = C := ⟨_, rfl⟩
          have hCl : CK ≤ 65535 := by omega
          have q3 : IntKind.i64.wrap (65535 - (m : Int)) = (CK : Int) := by rw [IntKind.wrap_i64]; omega
          have HCE := Lib.hid (hck.trans hCK)
          have HHI := Lib.hid (show ((CK : Int) / 256) = ((UInt8.ofNat (CK / 256)).toNat : Int) by rw [UInt8.toNat_ofNat']; omega)
          have HLO := Lib.hid (show ((CK : Int) % 256) = ((UInt8.ofNat (CK % 256)).toNat : Int) by rw [UInt8.toNat_ofNat']; omega)
          have d1 : Int.tdiv (CK : Int) 256 = (CK : Int) / 256 := Int.tdiv_eq_ediv_of_nonneg (by omega)
          have d2 : Int.tmod (CK : Int) 256 = (CK : Int) % 256 := Int.tmod_eq_emod_of_nonneg (by omega)
          have d3 : IntKind.i64.wrap ((CK : Int) / 256) = (CK : Int) / 256 := by rw [IntKind.wrap_i64]; omega
          have d4 : IntKind.u8.wrap ((CK : Int) / 256) = (CK : Int) / 256 := by rw [IntKind.wrap_u8]; omega
          have d5 : IntKind.u8.wrap ((CK : Int) % 256) = (CK : Int) % 256 := by rw [IntKind.wrap_u8]; omega
          have HL2 := Lib.hid (show (Z.set 24 (UInt8.ofNat (CK / 256))).length = n by rw [List.length_set]; exact HZL.out)
          clear hck hCK hlt hm
          go_wp2_with (first
            | ((with_reducible show wpList _ _ _ (⟨none, .store 5 (.tmp 38) _, _, _, _, _⟩ :: _) _ _); refine wpList_storeOG rfl (.tmp 38) _ rfl g 24 (by rfl) (UInt8.ofNat (CK / 256)) ((CK : Int) / 256) HHI.out (by rfl) Z n c base HZL.out HO6.out (by omega) ?_; intro wc hoc hgc; have HOc := Lib.hid hoc; have HGc := Lib.hid (gb_trans HG6.out hgc); clear hoc hgc)
            | ((with_reducible show wpList _ _ _ (⟨none, .store 5 (.tmp 43) _, _, _, _, _⟩ :: _) _ _); refine wpList_storeOG rfl (.tmp 43) _ rfl g 25 (by rfl) (UInt8.ofNat (CK % 256)) ((CK : Int) % 256) HLO.out (by rfl) (Z.set 24 (UInt8.ofNat (CK / 256))) n c base HL2.out HOc.out (by omega) ?_; intro wd hod hgd; rw [← HCE.out, HML.out] at hod; have HOd := Lib.hid hod; have HGd := Lib.hid (gb_trans HGc.out hgd); clear hod hgd))
          go_ret
          exact ⟨rfl, HOd.out, HGd.out⟩
end Go.Proofs.Ytdkaaffghendiaa
