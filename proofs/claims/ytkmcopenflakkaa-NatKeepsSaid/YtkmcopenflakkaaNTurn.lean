/-
  Plain mathematics of stage 12: a fine frame that is rewritten is fine. No program is walked here.
-/
import Derived.Test.YtkmcopenflakkaaNRead
namespace Go.Proofs.Ytkmcopenflakkaa
open Go.RowKit Go.Lib

theorem walkN_mono (xs : List UInt8) (T : Nat) : ∀ (n : Nat) (k : Wk), k.head ≤ (walkN xs T n k).2.head
  | 0, _ => Nat.le_refl _
  | n + 1, k => by
    unfold walkN
    split
    · split
      · have ih := walkN_mono xs T n (stepK xs k)
        have : k.head ≤ (stepK xs k).head := Nat.le_add_right _ _
        omega
      · exact Nat.le_refl _
    · exact Nat.le_refl _
theorem walkN_far {xs ys : List UInt8} {T H : Nat} (h : ∀ i, 40 ≤ i → i < H → batN ys i = batN xs i) : ∀ (n : Nat) (k : Wk), k.Fit T → (walkN xs T n k).1 = 0 → (walkN xs T n k).2.head ≤ H → walkN ys T n k = walkN xs T n k
  | 0, _, _, _, _ => rfl
  | n + 1, k, hk, h0, hH => by
    unfold walkN at h0 hH ⊢
    by_cases hg : goB k = true
    · rw [if_pos hg] at h0 hH
      rw [if_pos hg, if_pos hg]
      by_cases hs : stepF xs T k = 0
      · rw [if_pos hs] at h0 hH
        have hm := walkN_mono xs T n (stepK xs k)
        have h8 : k.head + 8 ≤ (stepK xs k).head := by
          have := szN_ge k.proto (batN xs (k.head + 1))
          show k.head + 8 ≤ k.head + szN k.proto (batN xs (k.head + 1))
          omega
        have hk0 := hk.h0
        have b1 : batN ys (k.head + 1) = batN xs (k.head + 1) := h _ (by omega) (by omega)
        have hs' : stepF ys T k = 0 := by unfold stepF at hs ⊢; rw [b1]; exact hs
        have hw : wat ys (k.head + 2) = wat xs (k.head + 2) := by
          have b2 := h (k.head + 2) (by omega) (by omega)
          have b3 := h (k.head + 2 + 1) (by omega) (by omega)
          unfold wat
          rw [b2, b3]
        have hk' : stepK ys k = stepK xs k := by unfold stepK; rw [b1, h k.head (by omega) (by omega), hw]
        rw [if_pos hs, if_pos hs', hk']
        exact walkN_far h n _ (stepK_fit hk hs) h0 hH
      · rw [if_neg hs] at h0
        exact absurd h0 hs
    · rw [if_neg hg, if_neg hg]
section
variable {z : List UInt8} {six : Bool} {n : Nt} {p : Nat} {u : Bool}
/-- The old address, and the old port. -/
theorem FineF.old (h : FineF z six n p u) (dst : Bool) (pr sp dp : Int) : ((z.drop p).drop (((plF six n p u dst).less p).ad)).take (szA six) = (oldA ⟨n.s, n.d, pr, sp, dp⟩ dst).b.take (szA six) := by
  have hb := h.bnd
  cases six
  · obtain ⟨f, e⟩ := h.v4
    have hf := fault_parts f
    have h20 := (fault_zero f).1
    have key : ∀ i, i + 4 ≤ 20 → ((z.drop p).drop i).take 4 = (adOf (z.drop p) i).b.take 4 := by
      intro i hi
      show _ = (((z.drop p).drop i).take 4 ++ z12).take 4
      rw [List.take_append_of_le_length (by rw [List.length_take, List.length_drop]; omega), List.take_take, Nat.min_self]
    rw [e]
    cases dst
    · show ((z.drop p).drop (p + 12 + 0 - p)).take 4 = (adOf (z.drop p) 12).b.take 4
      rw [show p + 12 + 0 - p = 12 by omega]
      exact key 12 (by omega)
    · show ((z.drop p).drop (p + 12 + 4 - p)).take 4 = (adOf (z.drop p) 16).b.take 4
      rw [show p + 12 + 4 - p = 16 by omega]
      exact key 16 (by omega)
  · obtain ⟨f, e⟩ := h.v6
    have key : ∀ i, ((z.drop p).drop i).take 16 = (adOf_9 (z.drop p) i).b.take 16 := by
      intro i
      show _ = (((z.drop p).drop i).take 16).take 16
      rw [List.take_take, Nat.min_self]
    rw [e]
    cases dst
    · show ((z.drop p).drop (p + 8 + 0 - p)).take 16 = (adOf_9 (z.drop p) 8).b.take 16
      rw [show p + 8 + 0 - p = 8 by omega]
      exact key 8
    · show ((z.drop p).drop (p + 8 + 16 - p)).take 16 = (adOf_9 (z.drop p) 24).b.take 16
      rw [show p + 8 + 16 - p = 24 by omega]
      exact key 24
theorem seg_wat (n : Nt) (r : List UInt8) {i : Nat} (h : i + 1 < n.total - n.head) : wat (segN r n) i = wat r (n.head + i) := by
  unfold segN
  rw [wat_take h]
  have := wat_drop r (p := n.head) (i := n.head + i) (by omega)
  rwa [Nat.add_sub_cancel_left] at this
theorem FineF.oldp (h : FineF z six n p u) (dst : Bool) : ((z.drop p).drop (((plF six n p u dst).less p).pt)).take 2 = be2 (wat (segN (z.drop p) n) (poD dst)) := by
  have hb := h.bnd
  have k8 := hb.k8
  have h2 := hb.h2
  have hp := plc_po u dst
  rw [seg_wat n _ (by omega), two_be2 _ _ (by rw [List.length_drop]; omega)]
  congr 2
  show p + n.head + poD dst - p = _
  omega
theorem FineF.oldc (h : FineF z six n p u) (dst : Bool) : wat (z.drop p) ((plF six n p u dst).less p).ck = wat (segN (z.drop p) n) (plc u) := by
  have hb := h.bnd
  have k := hb.k
  rw [seg_wat n _ (by omega)]
  congr 1
  show p + n.head + plc u - p = _
  omega
/-- What is laid for the segment's checksum. -/
def newC (n : Nt) (u : Bool) (six : Bool) (sg : List UInt8) (a : Ad) (m : Nat) (dst : Bool) : Nat := numW u (wat sg (plc u)) ((oldA ⟨n.s, n.d, 0, 0, 0⟩ dst).b.take (szA six)) (newB six a) (be2 (wat sg (poD dst))) (be2 m)
theorem FineF.seg (h : FineF z six n p u) {a : Ad} (ha : a.b.length = 16) (m : Nat) (dst : Bool) :
    (((rewL (plF six n p u dst) z (newB six a) m).drop p).drop n.head).take (n.total - n.head) = segW u (segN (z.drop p) n) (newC n u six (segN (z.drop p) n) a m dst) dst m := by
  have hb := h.bnd
  have h0 := hb.h0
  have hk := hb.ok dst
  have a1 := hk.a
  have hp := plc_po u dst
  have hnl := newB_len ha six
  rw [rewL_drop (by unfold plF; cases six <;> simp) (by show p ≤ p + _ + _; omega) (by show p ≤ p + n.head + _; omega) (by show p ≤ p + n.head + _; omega)]
  rw [rewL_seg (i := n.head) (by
      cases six
      · right
        rw [if_neg (by decide)] at h0
        show p + 10 - p + 2 ≤ n.head; omega
      · left
        show 0 - p = 0; omega) (by
      rw [hnl]
      have e : (plF six n p u dst).ad ≥ p := by show p ≤ p + _ + _; omega
      have e2 : ((plF six n p u dst).less p).ad = (plF six n p u dst).ad - p := rfl
      have e3 : (plF six n p u dst).ad + szA six ≤ p + n.head := by
        cases six
        · rw [if_neg (by decide)] at h0
          show p + 12 + (if dst = true then 4 else 0) + 4 ≤ p + n.head
          split <;> omega
        · rw [if_pos rfl] at h0
          show p + 8 + (if dst = true then 16 else 0) + 16 ≤ p + n.head
          split <;> omega
      omega) (by show n.head ≤ p + n.head + poD dst - p; omega) (by show n.head ≤ p + n.head + plc u - p; omega)]
  rw [hnl, h.old dst 0 0 0, h.oldp dst, h.oldc dst]
  show setL (setL (segN (z.drop p) n) (p + n.head + plc u - p - n.head) _) (p + n.head + poD dst - p - n.head) _ = _
  rw [show p + n.head + plc u - p - n.head = plc u by omega, show p + n.head + poD dst - p - n.head = poD dst by omega]
  rfl
theorem FineF.keep (h : FineF z six n p u) {a : Ad} (m : Nat) (dst : Bool) {i : Nat} (hi : i < p) : batN (rewL (plF six n p u dst) z (newB six a) m) i = batN z i := by
  apply rewL_bne
  · unfold plF
    cases six
    · right; left; show i < p + 10; omega
    · left; rfl
  · left; show i < p + _ + _; omega
  · left; show i < p + n.head + _; omega
  · left; show i < p + n.head + _; omega
/-- A fine frame, up to the end of its IP packet, rewritten: it is fine. -/
theorem FineF.turn (h : FineF z six n p u) (hl : z.length = p + n.total) {a : Ad} (ha : a.b.length = 16) (ho : ofB six a = true) {m : Nat} (hm : m < 65536) (dst : Bool) :
    ∃ n', FineF (rewL (plF six n p u dst) z (newB six a) m) six n' p u ∧ n'.head = n.head ∧ n'.total = n.total ∧ n'.s = (if dst = true then n.s else a) ∧ n'.d = (if dst = true then a else n.d) ∧ segN ((rewL (plF six n p u dst) z (newB six a) m).drop p) n' = segW u (segN (z.drop p) n) (newC n u six (segN (z.drop p) n) a m dst) dst m := by
  have hb := h.bnd
  have h0 := hb.h0
  have h14 := hb.p0
  have h1 := hb.h1
  have k := hb.k
  have hpp := plc_po u dst
  have hnl := newB_len ha six
  have hseg := h.seg ha m dst
  have hS : newC n u six (segN (z.drop p) n) a m dst < 65536 := by
    have hoa : (oldA ⟨n.s, n.d, 0, 0, 0⟩ dst).b.length = 16 := by unfold oldA; split; exact hb.d; exact hb.s
    have hol : (newB six a).length = ((oldA ⟨n.s, n.d, 0, 0, 0⟩ dst).b.take (szA six)).length := by rw [hnl, List.length_take, hoa]; cases six <;> rfl
    have hw := wat_lt (segN (z.drop p) n) (plc u)
    have := numW_le (u := u) (c := wat (segN (z.drop p) n) (plc u)) (old := (oldA ⟨n.s, n.d, 0, 0, 0⟩ dst).b.take (szA six)) (new := newB six a) (oldp := be2 (wat (segN (z.drop p) n) (poD dst))) (newp := be2 m) hol rfl (by omega)
    unfold newC
    omega
  obtain ⟨g1, g2, g3, g4, g5, g6⟩ := segW_new (dst := dst) h.fl hS hm
  obtain ⟨y, hy⟩ : ∃ y, rewL (plF six n p u dst) z (newB six a) m = y := ⟨_, rfl⟩
  have hyl : y.length = p + n.total := by rw [← hy, rewL_len, hl]
  have hya : y.take p = z.take p := by
    have := rewL_part (q := plF six n p u dst) (xs := z) (new := newB six a) (m := m) (p := 0) (n := p) (by
      unfold plF
      cases six
      · right; right; show 0 + p ≤ p + 10; omega
      · left; rfl) (.inr (by show 0 + p ≤ p + _ + _; omega)) (.inr (by show 0 + p ≤ p + n.head + _; omega)) (.inr (by show 0 + p ≤ p + n.head + _; omega))
    rw [hy, List.drop_zero, List.drop_zero] at this
    exact this
  have hrd : rdOf y = rdOf z := rd_agr h.lk (by rw [h.at_]; exact hya)
  have hat : atK y = p := by rw [← h.at_]; unfold atK; rw [hrd]
  have hr' : y.drop p = rewL ((plF six n p u dst).less p) (z.drop p) (newB six a) m := by
    rw [← hy]
    exact rewL_drop (by unfold plF; cases six <;> simp) (by show p ≤ p + _ + _; omega) (by show p ≤ p + n.head + _; omega) (by show p ≤ p + n.head + _; omega)
  have hrl : (z.drop p).length = n.total := by rw [List.length_drop]; omega
  have hrl' : (y.drop p).length = n.total := by rw [List.length_drop]; omega
  rw [hy] at hseg ⊢
  cases six
  · rw [if_neg (by decide)] at h0
    obtain ⟨f, e⟩ := h.v4
    obtain ⟨z1, z2⟩ := fault_zero f
    obtain ⟨f1, f2, f3⟩ := fault_parts f
    have q1 : ((plF false n p u dst).less p).hd = 10 := by show p + 10 - p = 10; omega
    have q2 : ((plF false n p u dst).less p).ad = 12 + (if dst = true then 4 else 0) := by show p + 12 + (if dst = true then 4 else 0) - p = _; omega
    have q3 : ((plF false n p u dst).less p).pt = n.head + poD dst := by show p + n.head + poD dst - p = _; omega
    have q4 : ((plF false n p u dst).less p).ck = n.head + plc u := by show p + n.head + plc u - p = _; omega
    have q5 : 12 ≤ ((plF false n p u dst).less p).ad ∧ ((plF false n p u dst).less p).ad + (newB false a).length ≤ 20 := by
      rw [q2, hnl]
      show 12 ≤ 12 + (if dst = true then 4 else 0) ∧ 12 + (if dst = true then 4 else 0) + 4 ≤ 20
      split <;> omega
    have kb : ∀ i, i < 10 → batN (y.drop p) i = batN (z.drop p) i := fun i hi => by
      rw [hr']
      exact rewL_bne (by omega) (by omega) (by omega) (by omega)
    have kw : ∀ i, i + 1 < 10 → wat (y.drop p) i = wat (z.drop p) i := fun i hi => by unfold wat; rw [kb i (by omega), kb (i + 1) hi]
    have ei : ihl (y.drop p) = ihl (z.drop p) := by unfold ihl; rw [kb 0 (by omega)]
    have hih : n.head = ihl (z.drop p) := by rw [e]
    have hto : n.total = wat (z.drop p) 2 := by rw [e]
    have hv : batN (z.drop p) 0 / 16 = 4 := by
      by_cases hv : batN (z.drop p) 0 / 16 = 4
      · exact hv
      · rw [fault_form z1 (.inl hv)] at f; cases f
    have hck : ckOf ((y.drop p).take (ihl (y.drop p))) = 0 := by
      rw [ei, hr', head_right (by omega) (by omega) (by omega) (by omega) (by omega) (by omega) (by omega) (by rw [q2]; split <;> omega) (by rw [hnl]; decide) (by omega)]
      exact z2
    have f' : faultN (y.drop p) = 0 := fault_no (by omega) (by rw [kb 0 (by omega)]; exact hv) (by omega) (by omega) (by rw [kw 2 (by omega)]; omega) (by rw [kw 2 (by omega)]; omega) hck
    have en : nt4 (y.drop p) = ⟨0, n.head, n.total, n.frag, n.proto, adOf (y.drop p) 12, adOf (y.drop p) 16⟩ := by
      unfold nt4
      rw [if_pos f', ei, kw 2 (by omega), kw 6 (by omega), kb 9 (by omega), hih, hto, e]
    have ep : ∀ i, i + 4 ≤ 20 → 12 ≤ i → (i + 4 ≤ ((plF false n p u dst).less p).ad ∨ ((plF false n p u dst).less p).ad + 4 ≤ i) → adOf (y.drop p) i = adOf (z.drop p) i := by
      intro i hi h12 hd
      unfold adOf
      have hnl' : (newB false a).length = 4 := hnl
      rw [hr', rewL_part (by omega) (by omega) (by omega) (by omega)]
    have ea : adOf (y.drop p) (((plF false n p u dst).less p).ad) = a := by
      have hnl' : (newB false a).length = 4 := hnl
      have hko : ((plF false n p u dst).less p).Ok (newB false a).length (z.drop p).length := ⟨.inr (by omega), by omega, by omega, by omega⟩
      have := rewL_ad (xs := z.drop p) (m := m) hko
      rw [← hr', hnl'] at this
      unfold adOf
      rw [this]
      exact (of_4 ha ho).symm
    refine ⟨nt4 (y.drop p), ⟨by rw [hrd]; exact h.lk, hat, by rw [hrd]; exact h.ty, rfl, by rw [en], by rw [en]; exact h.fr, by rw [en]; exact h.pr, ?_⟩, by rw [en], by rw [en], ?_, ?_, ?_⟩
    · rw [en]
      show faultB u (((y.drop p).drop n.head).take (n.total - n.head)) = 0
      rw [hseg]
      exact g1
    · rw [en]
      cases dst
      · rw [q2] at ea; exact ea
      · show adOf (y.drop p) 12 = n.s
        rw [ep 12 (by omega) (by omega) (.inl (by rw [q2]; decide)), e]
    · rw [en]
      cases dst
      · show adOf (y.drop p) 16 = n.d
        rw [ep 16 (by omega) (by omega) (.inr (by rw [q2]; decide)), e]
      · rw [q2] at ea; exact ea
    · rw [en]
      exact hseg
  · rw [if_pos rfl] at h0
    obtain ⟨f, e⟩ := h.v6
    have fb := six_bad f
    obtain ⟨z1, z2, z3⟩ := fault_zero_9 fb
    have q1 : ((plF true n p u dst).less p).hd = 0 := by show 0 - p = 0; omega
    have q2 : ((plF true n p u dst).less p).ad = 8 + (if dst = true then 16 else 0) := by show p + 8 + (if dst = true then 16 else 0) - p = _; omega
    have q3 : ((plF true n p u dst).less p).pt = n.head + poD dst := by show p + n.head + poD dst - p = _; omega
    have q4 : ((plF true n p u dst).less p).ck = n.head + plc u := by show p + n.head + plc u - p = _; omega
    have q5 : 8 ≤ ((plF true n p u dst).less p).ad ∧ ((plF true n p u dst).less p).ad + (newB true a).length ≤ 40 := by
      rw [q2, hnl]
      show 8 ≤ 8 + (if dst = true then 16 else 0) ∧ 8 + (if dst = true then 16 else 0) + 16 ≤ 40
      split <;> omega
    have kb : ∀ i, (i < 8 ∨ 40 ≤ i ∧ i < n.head) → batN (y.drop p) i = batN (z.drop p) i := fun i hi => by
      rw [hr']
      exact rewL_bne (.inl q1) (by omega) (by omega) (by omega)
    have kw : ∀ i, i + 1 < 8 → wat (y.drop p) i = wat (z.drop p) i := fun i hi => by unfold wat; rw [kb i (by omega), kb (i + 1) (by omega)]
    have et : totN_9 (y.drop p) = totN_9 (z.drop p) := by
      show 40 + wat (y.drop p) 4 = 40 + wat (z.drop p) 4
      rw [kw 4 (by omega)]
    have hto : n.total = totN_9 (z.drop p) := by rw [e]
    have hhe : n.head = (wkOf (z.drop p)).head := by rw [e]
    have fb' : faultN_9 (y.drop p) = 0 := fault_no_9 (by omega) (by rw [kb 0 (by omega)]; exact z2) (by rw [et]; omega)
    have ew : wk0 (y.drop p) = wk0 (z.drop p) := by unfold wk0; rw [kb 6 (by omega)]
    have f0 : (walkOf (z.drop p) (totN_9 (z.drop p)) (wk0 (z.drop p))).1 = 0 := by rw [← rdN_walk fb]; exact f
    have ea0 : walkOf (y.drop p) (totN_9 (y.drop p)) (wk0 (y.drop p)) = walkOf (z.drop p) (totN_9 (z.drop p)) (wk0 (z.drop p)) := by
      rw [et, ew]
      exact walkN_far (H := n.head) (fun i h1 h2 => kb i (.inr ⟨h1, h2⟩)) _ _ (wk0_fit (by unfold totN_9; omega)) f0 (Nat.le_of_eq hhe.symm)
    have f' : rdN (y.drop p) = 0 := by rw [rdN_walk fb', ea0]; exact f0
    have en : nt6 (y.drop p) = ⟨0, n.head, n.total, n.frag, n.proto, adOf_9 (y.drop p) 8, adOf_9 (y.drop p) 24⟩ := by
      unfold nt6
      rw [if_pos f']
      unfold wkOf
      rw [ea0, et, e]
      rfl
    have ep : ∀ i, i + 16 ≤ 40 → 8 ≤ i → (i + 16 ≤ ((plF true n p u dst).less p).ad ∨ ((plF true n p u dst).less p).ad + 16 ≤ i) → adOf_9 (y.drop p) i = adOf_9 (z.drop p) i := by
      intro i hi h12 hd
      unfold adOf_9 ad16
      have hnl' : (newB true a).length = 16 := hnl
      rw [hr', rewL_part (by omega) (by omega) (by omega) (by omega)]
    have ea : adOf_9 (y.drop p) (((plF true n p u dst).less p).ad) = a := by
      have hnl' : (newB true a).length = 16 := hnl
      have hko : ((plF true n p u dst).less p).Ok (newB true a).length (z.drop p).length := ⟨.inl q1, by omega, by omega, by omega⟩
      have := rewL_ad (xs := z.drop p) (m := m) hko
      rw [← hr', hnl'] at this
      unfold adOf_9 ad16
      rw [this]
      exact (of_6 ha ho).symm
    refine ⟨nt6 (y.drop p), ⟨by rw [hrd]; exact h.lk, hat, by rw [hrd]; exact h.ty, rfl, by rw [en], by rw [en]; exact h.fr, by rw [en]; exact h.pr, ?_⟩, by rw [en], by rw [en], ?_, ?_, ?_⟩
    · rw [en]
      show faultB u (((y.drop p).drop n.head).take (n.total - n.head)) = 0
      rw [hseg]
      exact g1
    · rw [en]
      cases dst
      · rw [q2] at ea; exact ea
      · show adOf_9 (y.drop p) 8 = n.s
        rw [ep 8 (by omega) (by omega) (.inl (by rw [q2]; decide)), e]
    · rw [en]
      cases dst
      · show adOf_9 (y.drop p) 24 = n.d
        rw [ep 24 (by omega) (by omega) (.inr (by rw [q2]; decide)), e]
      · rw [q2] at ea; exact ea
    · rw [en]
      exact hseg
end
end Go.Proofs.Ytkmcopenflakkaa
