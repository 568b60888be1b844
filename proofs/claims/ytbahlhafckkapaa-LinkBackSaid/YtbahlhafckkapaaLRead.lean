/-
  The contract of link.Read.
-/
import Derived.Test.YtbahlhafckkapaaLSmall
import Derived.Deep.RegionLaw
namespace Go.Proofs.Ytbahlhafckkapaa
open Go.RowKit Go.Lib

/-- Six bytes that begin with these. -/
def pad6 (ys : List UInt8) : List UInt8 := ys ++ List.replicate (6 - ys.length) 0
theorem pad6_len (ys : List UInt8) (h : ys.length ≤ 6) : (pad6 ys).length = 6 := by unfold pad6; rw [List.length_append, List.length_replicate]; omega
theorem pad6_all (ys : List UInt8) (h : ys.length = 6) : pad6 ys = ys := by unfold pad6; rw [h]; simp
theorem splice_dst (ys s : List UInt8) (ts : List Tg) (ty at_ : Int) (tv : Value) (h : ys.length ≤ 6) : splice (lkL ⟨zeros6, s, ts, ty, at_⟩ tv) 0 (ys.map v8) = lkL ⟨pad6 ys, s, ts, ty, at_⟩ tv := by
  have e : (zeros6.map v8).drop ys.length = (List.replicate (6 - ys.length) (0 : UInt8)).map v8 := by
    rw [show zeros6 = List.replicate 6 0 from rfl, ← List.map_drop, List.drop_replicate]
  unfold splice lkL pad6
  rw [List.take_zero, List.nil_append, List.length_map, Nat.zero_add, List.drop_append_of_le_length (by simpa [zeros6] using h), e, List.map_append, List.append_assoc]
theorem splice_src (d ys : List UInt8) (ts : List Tg) (ty at_ : Int) (tv : Value) (hd : d.length = 6) (h : ys.length ≤ 6) : splice (lkL ⟨d, zeros6, ts, ty, at_⟩ tv) 6 (ys.map v8) = lkL ⟨d, pad6 ys, ts, ty, at_⟩ tv := by
  have e : (zeros6.map v8).drop ys.length = (List.replicate (6 - ys.length) (0 : UInt8)).map v8 := by
    rw [show zeros6 = List.replicate 6 0 from rfl, ← List.map_drop, List.drop_replicate]
  unfold splice lkL pad6
  rw [List.take_append_of_le_length (by rw [List.length_map, hd]; omega), List.take_of_length_le (by rw [List.length_map, hd]; omega), List.length_map]
  rw [List.drop_append, List.length_map, hd, Nat.add_sub_cancel_left, List.drop_eq_nil_of_le (by rw [List.length_map, hd]; omega), List.nil_append]
  rw [List.drop_append_of_le_length (by simpa [zeros6] using h), e, List.map_append, List.append_assoc]

set_option maxRecDepth 100000 in
set_option maxHeartbeats 2000000 in
theorem read_any (A : Option Addr) (len cap : Nat) (xs : List UInt8) (hlen : len ≤ 1000000) (hcap : len ≤ cap) (hcap2 : cap ≤ maxLen) (w : World) (hI : Rd w w.heap.size A len xs) :
    Calls Try.prog 10 #[.slice A len cap] w (ReadGave w (rdOf xs)) := by
  have HL := Lib.hid hI.len
  obtain ⟨Z, hZ⟩ : ∃ Z : World, (w.alloc (.cells (lkL Lk.zero (.slice none 0 0)).toArray 27)).alloc (.cells (lkL Lk.zero (.slice none 0 0)).toArray 27) = Z := ⟨_, rfl⟩
  have b1 : Blk Z 27 w.heap.size (lkL Lk.zero (.slice none 0 0)) := by
    rw [← hZ]; exact (Blk.new w _ _).alloc _
  have b2 : Blk Z 27 (w.heap.size + 1) (lkL Lk.zero (.slice none 0 0)) := by
    rw [← hZ]
    have := Blk.new (w.alloc (.cells (lkL Lk.zero (.slice none 0 0)).toArray 27)) 27 (lkL Lk.zero (.slice none 0 0))
    simpa using this
  have hB0 : Below w.heap.size w Z := by
    rw [← hZ]; exact ((Below.refl w.heap.size w).alloc (Nat.le_refl _) _).alloc (by simp) _
  have hz : Z.heap.size = w.heap.size + 2 := by rw [← hZ]; simp
  rw [← zeroC] at hZ
  obtain ⟨m1, hm1⟩ : ∃ m1, (xs.take 6).length = m1 := ⟨_, rfl⟩
  have hm1' : m1 = min 6 len := by rw [← hm1, List.length_take, HL.out]
  obtain ⟨m2, hm2⟩ : ∃ m2, ((xs.drop m1).take 6).length = m2 := ⟨_, rfl⟩
  have hm2' : m2 = min 6 (len - m1) := by rw [← hm2, List.length_take, List.length_drop, HL.out]
  obtain ⟨C1, hC1⟩ : ∃ C1, C1 = (xs.take 6).map v8 := ⟨_, rfl⟩
  obtain ⟨C2, hC2⟩ : ∃ C2, C2 = ((xs.drop m1).take 6).map v8 := ⟨_, rfl⟩
  have hC1l : C1.length = m1 := by rw [hC1, List.length_map, hm1]
  have hC2l : C2.length = m2 := by rw [hC2, List.length_map, hm2]
  have h1one : ∀ v ∈ C1, v.oneCell' = true := by rw [hC1]; exact oneCell8 _
  have h2one : ∀ v ∈ C2, v.oneCell' = true := by rw [hC2]; exact oneCell8 _
  have hsrc1 : ∀ W : World, Below w.heap.size w W → 0 < C1.length → ∃ ad, A = some ad ∧ ∀ j v, C1[j]? = some v → W.cell? (ad.add j) = some v := by
    intro W hb h0
    have hr : Rd W w.heap.size A m1 (xs.take 6) := by
      rw [hm1']
      rcases Nat.le_total 6 len with h | h
      · rw [Nat.min_eq_left h]; exact (hI.below hb).take h
      · rw [Nat.min_eq_right h, List.take_of_length_le (by rw [hI.len]; exact h)]; exact hI.below hb
    obtain ⟨ad, h1, h2⟩ := hr.cells (by omega)
    exact ⟨ad, h1, by rw [hC1]; exact h2⟩
  have hsrc2 : ∀ W : World, Below w.heap.size w W → 0 < C2.length → ∃ ad, cutA A cap m1 = some ad ∧ ∀ j v, C2[j]? = some v → W.cell? (ad.add j) = some v := by
    intro W hb h0
    have hr0 := (hI.below hb).from (l := m1) (by omega) cap hcap
    have hr : Rd W w.heap.size (cutA A cap m1) m2 ((xs.drop m1).take 6) := by
      rw [hm2']
      rcases Nat.le_total 6 (len - m1) with h | h
      · rw [Nat.min_eq_left h]; exact hr0.take h
      · rw [Nat.min_eq_right h, List.take_of_length_le (by rw [List.length_drop, hI.len]; exact h)]; exact hr0
    obtain ⟨ad, h1, h2⟩ := hr.cells (by omega)
    exact ⟨ad, h1, by rw [hC2]; exact h2⟩
  have hD : splice (lkL Lk.zero (.slice none 0 0)) 0 C1 = lkL ⟨pad6 (xs.take 6), zeros6, [], 0, 0⟩ (.slice none 0 0) := by
    rw [hC1]; exact splice_dst _ _ _ _ _ _ (by rw [List.length_take]; omega)
  have hS : splice (lkL ⟨pad6 (xs.take 6), zeros6, [], 0, 0⟩ (.slice none 0 0)) 6 C2 = lkL ⟨pad6 (xs.take 6), pad6 ((xs.drop m1).take 6), [], 0, 0⟩ (.slice none 0 0) := by
    rw [hC2]; exact splice_src _ _ _ _ _ _ (pad6_len _ (by rw [List.length_take]; omega)) (by rw [List.length_take]; omega)
  have h6 : ∀ ts ty at_, Lk.Six ⟨pad6 (xs.take 6), pad6 ((xs.drop m1).take 6), ts, ty, at_⟩ := fun _ _ _ => ⟨pad6_len _ (by rw [List.length_take]; omega), pad6_len _ (by rw [List.length_take]; omega)⟩
  have h12 : 12 ≤ len → pad6 (xs.take 6) = xs.take 6 ∧ pad6 ((xs.drop m1).take 6) = (xs.drop 6).take 6 := by
    intro h
    have e : m1 = 6 := by omega
    rw [e]
    exact ⟨pad6_all _ (by rw [List.length_take, HL.out]; omega), pad6_all _ (by rw [List.length_take, List.length_drop, HL.out]; omega)⟩
  have hsm : m1 + m2 ≤ 12 := by omega
  have hst : rdGo xs 3 [] (m1 + m2) = rdOf xs := by
    by_cases h : len < 14
    · rw [rdOf, rdGo_end (by rw [HL.out]; omega), rdGo_end (by rw [HL.out]; omega)]
    · rw [show m1 + m2 = 12 by omega]; rfl
  have hp12 : m1 + m2 + 2 ≤ len → 12 ≤ len := by omega
  have hcut := run_from8 A len cap m1 (by omega)
  have hw1 : IntKind.i64.wrap ((m1 : Int) + (m2 : Int)) = (m1 : Int) + (m2 : Int) := by rw [IntKind.wrap_i64]; omega
  generalize pad6 (xs.take 6) = D at *
  generalize pad6 ((xs.drop m1).take 6) = S at *
  have HM1 := Lib.hid hm1'
  have HM2 := Lib.hid hm2'
  have HC1l := Lib.hid hC1l
  have HC2l := Lib.hid hC2l
  have H1one := Lib.hid h1one
  have H2one := Lib.hid h2one
  have HS1 := Lib.hid hsrc1
  have HS2 := Lib.hid hsrc2
  have HD := Lib.hid hD
  have HS := Lib.hid hS
  have H6 := Lib.hid h6
  have H12 := Lib.hid h12
  have HST := Lib.hid hst
  have HP12 := Lib.hid hp12
  have HB0 := Lib.hid hB0
  have HB1 := Lib.hid b1
  have HB2 := Lib.hid b2
  have HZ := Lib.hid hz
  have HZZ := Lib.hid hZ
  clear hm1 hm1' hm2 hm2' hC1 hC2 hC1l hC2l h1one h2one hsrc1 hsrc2 hD hS h6 h12 hst hp12 hB0 b1 b2 hz hZ
  go_enter Try.func10, Try.ntmps10
  go_wp2_with ((with_reducible show wpList _ _ _ _ _ _); rw [HZZ.out]; refine wpList_copy_splice rfl (.tmp 8) (.tmp 9) 22 22 rfl 5 Try.underlying22 size8 _ _ _ _ _ _ (by rfl) (by rfl) (w.heap.size + 1) 0 (lkL Lk.zero (.slice none 0 0)) 27 HB2.out C1 (by rw [HC1l.out, HM1.out]; exact Nat.min_comm _ _) (fun h0 => ⟨rfl, HS1.out _ HB0.out h0⟩) (by rw [HC1l.out, HM1.out, lkL_len Lk.six_zero]; omega) H1one.out (w.heap.size + 1) Z (Below.refl _ _) (Nat.le_refl _) ?_; intro w2 HG2 hB2; rw [HC1l.out])
  have z2 : w.heap.size + 2 ≤ w2.heap.size := by have := hB2.size; rw [HZ.out] at this; exact this
  have R1 := HB1.out.below (Nat.lt_succ_self _) hB2
  have L1 : Blk w2 27 (w.heap.size + 1) (lkL ⟨D, zeros6, [], 0, 0⟩ (.slice none 0 0)) := by rw [← HD.out]; exact HG2.out
  have B1 := HB0.out.trans (hB2.mono (Nat.le_succ _))
  clear HG2 hB2
  go_region_law (refine step_copy_splice rfl (.tmp 13) (.tmp 16) 22 22 rfl 5 Try.underlying22 size8 (some ⟨w.heap.size + 1, 6, none⟩) (cutA A cap m1) 6 6 (len - m1) (cap - m1) (by simp [Act.eval, Act.put]) (by simp [Act.eval, Act.put]) (w.heap.size + 1) 6 (lkL ⟨D, zeros6, [], 0, 0⟩ (.slice none 0 0)) 27 L1 C2 (by rw [HC2l.out, HM2.out]; exact Nat.min_comm _ _) (fun h0 => ⟨rfl, HS2.out _ B1.drew h0⟩) (by rw [HC2l.out, HM2.out, lkL_len (L := ⟨D, zeros6, [], 0, 0⟩) ⟨(H6.out [] 0 0).d, rfl⟩]; omega) H2one.out (w.heap.size + 1) w2 (Below.refl _ _).drew (Nat.le_refl _) ?_; intro w3 HG3 hB3; rw [HC2l.out])
  have z3 : w.heap.size + 2 ≤ w3.heap.size := Nat.le_trans z2 hB3.size
  have R2 := R1.below (Nat.lt_succ_self _) hB3
  have L2 : Blk w3 27 (w.heap.size + 1) (lkL ⟨D, S, [], 0, 0⟩ (.slice none 0 0)) := by rw [← HS.out]; exact HG3.out
  have B2 := B1.trans (hB3.mono (Nat.le_succ _))
  clear HG3 hB3 L1 R1 B1 z2 hcut hw1
  go_wp2_with fail
  simp only [Act.put, List.getElem_toArray, List.getElem_cons_succ, List.getElem_cons_zero, List.setIfInBounds_toArray, List.set_cons_zero, List.set_cons_succ]
  go_loopw [5] (fun at_ wr => ∃ (k p : Nat) (ts : List Tg) (tv : Value), at_ = .int .i64 (p : Int) ∧ k + ts.length = 2 ∧ p ≤ 12 + 4 * ts.length ∧ (p + 2 ≤ len → 12 ≤ len) ∧ rdGo xs (k + 1) ts p = rdOf xs ∧ w.heap.size + 2 ≤ wr.heap.size ∧ OwnT wr (w.heap.size + 2) tv ts ∧ Blk wr 27 w.heap.size (lkL Lk.zero (.slice none 0 0)) ∧ Blk wr 27 (w.heap.size + 1) (lkL ⟨D, S, [], 0, 0⟩ tv) ∧ Below w.heap.size w wr) (fun at_ _ => 100 - (intOf at_).toNat)
  case atStart => exact ⟨2, m1 + m2, [], _, by rw [Int.natCast_add], rfl, by simpa using hsm, HP12.out, HST.out, z3, OwnT.nil_ _ _, R2, L2, B2⟩
  case round =>
    clear R2 L2 B2 z3
    obtain ⟨k, p, ts, tv, rfl, hk, hp, hp12, hgo, hz, hown, R, L, B⟩ := hrel
    have HGO := Lib.hid hgo
    have HONE := Lib.hid hown.one
    have HK := Lib.hid hk
    clear hgo hk
    by_cases hb : p + 2 ≤ len
    · have hwl : wd xs p < 65536 := wd_lt xs p
      have hI' := (hI.below B).more B.size
      have HN := Lib.hid (num_any (p := p) (by omega) hcap hcap2 hb hI')
      obtain ⟨n, hn⟩ : ∃ n : Nat, wd xs p = n := ⟨_, rfl⟩
      rw [hn] at HN hwl
      have HY := Lib.hid (fun W => isnum_yes A len cap p (by omega) hb W)
      have hwp : IntKind.i64.wrap ((p : Int) + 2) = (p : Int) + 2 := by rw [IntKind.wrap_i64]; omega
      have hp40 : p ≤ 20 := by have := HK.out; omega
      by_cases ht : isTg (n : Int) = true
      · have HT := Lib.hid (fun W => ht ▸ istag_any (n : Int) W)
        obtain ⟨A5, m5, c5, rfl, hm5, hmc5, hcm5, _, _⟩ := hown.sl
        match k with
        | 0 =>
          have hm2 : m5 = 2 := by have := HK.out; omega
          subst hm2
          have hres : rdOf xs = (Lk.zero, 4) := by rw [← HGO.out]; exact rdGo_long (by rw [HL.out]; exact hb) (by rw [hn]; exact ht)
          have HR := Lib.hid hres
          clear hres hn ht hm5 hI'
          go_wp2_with fail
          refine (HY.out _).mono ?_
          rintro e w4 ⟨rfl, rfl⟩
          go_wp2_with fail
          refine (HN.out).mono ?_
          rintro e w4 ⟨rfl, hb4⟩
          have c12 := (L.below (by omega) hb4).cell (lkL_tags (H6.out _ _ _) _)
          have R6 := Lib.hid (R.below (by omega) hb4)
          have B4 := B.trans (hb4.mono (by omega))
          clear R
          go_wp2_with (first
            | (go_at_call 20; refine (HT.out _).mono ?_; rintro e w5 ⟨rfl, rfl⟩)
            | ((with_reducible show wpList _ _ _ _ _ _); refine wpList_storeR rfl 27 _ _ rfl w.heap.size (by rfl) (lkL Lk.zero (.slice none 0 0)) (by exact congrArg Value.agg zeroC) _ R6.out rfl (sizeLkL Lk.six_zero _) (lkL_one _ _ rfl) ?_))
          refine bodyPost_ret (v := .tuple #[lkC Lk.zero (.slice none 0 0), .int .i64 4]) (results_lk rfl _ _ w.heap.size (by rfl) _ Lk.six_zero _ (R6.out.setRow_ _) _ (by rfl)) rfl ?_
          refine ⟨.slice none 0 0, ?_, ?_, below_setRow B4 (Nat.le_refl _) _⟩
          · rw [HR.out]; rfl
          · rw [HR.out]; exact OwnT.nil_ _ _
        | k + 1 =>
          have hm2 : ((m5 : Int) == 2) = false := beq_eq_false_iff_ne.2 (by have := HK.out; omega)
          have hm2' : (m5 == 2) = false := beq_eq_false_iff_ne.2 (by have := HK.out; omega)
          by_cases hb2 : p + 2 + 2 ≤ len
          · have HY2 := Lib.hid (fun W => isnum_yes' A len cap (p + 2) ((p : Int) + 2) (by omega) (by omega) (by omega) W)
            obtain ⟨n2, hn2⟩ : ∃ n2 : Nat, wd xs (p + 2) = n2 := ⟨_, rfl⟩
            have hw2l : n2 < 65536 := by rw [← hn2]; exact wd_lt xs (p + 2)
            have HN2 := Lib.hid (fun W (hW : Below wr.heap.size wr W) => num_any' (p := p + 2) (cap := cap) ((p : Int) + 2) (by omega) n2 hn2 (by omega) hcap hcap2 hb2 (((hI.below B).below (hW.mono B.size)).more (Nat.le_trans B.size hW.size)))
            have hgo2 : rdGo xs (k + 1) (ts ++ [⟨(n : Int), (n2 : Int)⟩]) (p + 4) = rdOf xs := by
              rw [← HGO.out, rdGo_tag (by rw [HL.out]; exact hb) (by rw [hn]; exact ht), hn, hn2]
            have HGO2 := Lib.hid hgo2
            have HOW := Lib.hid hown
            have HM5 := Lib.hid hm5
            have hw4 : IntKind.i64.wrap ((p : Int) + 2 + 2) = (p : Int) + 2 + 2 := by rw [IntKind.wrap_i64]; omega
            clear hgo2 hn hn2 ht hm5 hI' hown
            go_wp2_with fail
            refine (HY.out _).mono ?_
            rintro e w4 ⟨rfl, rfl⟩
            go_wp2_with fail
            refine (HN.out).mono ?_
            rintro e w4 ⟨rfl, hb4⟩
            have z4 := hb4.size
            have R4 := R.below (by omega) hb4
            have L4 := L.below (by omega) hb4
            have B4 := B.trans (hb4.mono (by omega))
            have O4 := HOW.out.below hb4
            have c12 := L4.cell (lkL_tags (H6.out _ _ _) _)
            have L4 := Lib.hid L4
            have R4 := Lib.hid R4
            have O4 := Lib.hid O4
            clear L R
            go_wp2_with (first
              | (go_at_call 20; refine (HT.out _).mono ?_; rintro e w5 ⟨rfl, rfl⟩)
              | (go_at_call 18; refine (HY2.out _).mono ?_; rintro e w5 ⟨rfl, rfl⟩))
            have ob : ∀ g, (Value.slice A5 m5 c5).ownBlock = some g → w.heap.size + 2 ≤ g := fun g hg => (O4.out.lt g hg).1
            have OB := Lib.hid ob
            clear ob
            go_region_law (first
              | (rw [if_pos (by rfl)]; go_simp; refine (HN2.out _ hb4.drew).mono ?_; rintro e w6 ⟨rfl, hb6⟩; have c12' := (hb6.cell (p := ⟨w.heap.size + 1, 12, none⟩) (by simp; omega)).trans c12; have c12'' := (World.cell?_alloc_lt w6 (.cells #[.int .i64 (n : Int), .int .i64 (n2 : Int)] 45) ⟨w.heap.size + 1, 12, none⟩ (by have := hb6.size; simp at this ⊢; omega)).trans c12')
              | (refine step_appendT (by rfl) (.tmp 45) (.tmp 51) (by rfl) (w.heap.size + 2) (.slice A5 m5 c5) ts ⟨(n : Int), (n2 : Int)⟩ (by simp [Act.eval]) w6.heap.size (by simp [Act.eval]) ((O4.out.drew.below hb6).alloc _) (by have := HK.out; omega) (by have := hb6.size; simp at this; simp; omega) (Blk.new w6 _ _) ?_; intro v7 w7 hO7 hg7 hob7; have L7 := (((L4.out.drew).below (by simp; omega) hb6).alloc (.cells #[.int .i64 (n : Int), .int .i64 (n2 : Int)] 45)).grown hg7 (fun e => by have := OB.out _ e; omega); have R7 := (((R4.out.drew).below (by simp; omega) hb6).alloc (.cells #[.int .i64 (n : Int), .int .i64 (n2 : Int)] 45)).grown hg7 (fun e => by have := OB.out _ e; omega); obtain ⟨A7, m7, c7, rfl, hm7, _, _, _, _⟩ := hO7.sl; have HM7 := Lib.hid hm7; clear hm7; have d12 := L7.cell (lkL_tags (H6.out _ _ _) _); have d12f := L7.frozen 12; clear c12' c12''))
            all_goals
              have e7 : Below w.heap.size w w7 := ((B4.drew.trans (hb6.mono (by simp; omega))).alloc (by have := hb6.size; simp at this ⊢; omega) (.cells #[.int .i64 (n : Int), .int .i64 (n2 : Int)] 45)).grown hg7 (by have := hb6.size; simp at this ⊢; omega) (fun g hg => by have := OB.out g hg; omega)
              have e8 := e7.setCell (p := ⟨w.heap.size + 1, 12, none⟩) (by simp) (.slice A7 m7 c7)
              have L8 := L7.set 12 (.slice A7 m7 c7)
              rw [lkL_tags' (H6.out _ _ _)] at L8
              have R8 := R7.far (p := ⟨w.heap.size + 1, 12, none⟩) (by simp) (.slice A7 m7 c7)
              have O8 := hO7.kept1 (gb_set (World.grownBy.refl w7 (some (w.heap.size + 1))) 12 (.slice A7 m7 c7)) (by omega)
              have z8 : w.heap.size + 2 ≤ (w7.setCell ⟨w.heap.size + 1, 12, none⟩ (.slice A7 m7 c7)).heap.size := by
                have h1 := hg7.size; have h2 := hb6.size; simp [World.setCell] at h1 h2 ⊢; omega
              have E8 := Lib.hid e8
              have L8 := Lib.hid L8
              have R8 := Lib.hid R8
              have O8 := Lib.hid O8
              have Z8 := Lib.hid z8
              clear e7 e8 L7 R7 hO7 hg7 hob7 d12 d12f c12 z8
              go_wp2_with fail
              clear hwp hw4
              go_roundw
              case rel => exact ⟨k, p + 4, ts ++ [⟨(n : Int), (n2 : Int)⟩], _, by go_num, by have := HK.out; rw [List.length_append, List.length_singleton]; omega, by rw [List.length_append, List.length_singleton]; omega, fun _ => hp12 hb, HGO2.out, Z8.out, O8.out, R8.out, L8.out, E8.out⟩
              case measure => simp [intOf]; omega
          · have HY2 := Lib.hid (fun W => isnum_no' A len cap (p + 2) ((p : Int) + 2) (by omega) (by omega) (by omega) (by omega) W)
            have hres : rdOf xs = (Lk.zero, 2) := by
              rw [← HGO.out, rdGo_tag (by rw [HL.out]; exact hb) (by rw [hn]; exact ht)]
              exact rdGo_end (by rw [HL.out]; omega)
            have HR := Lib.hid hres
            clear hres hn ht hm5 hI'
            go_wp2_with fail
            refine (HY.out _).mono ?_
            rintro e w4 ⟨rfl, rfl⟩
            go_wp2_with fail
            refine (HN.out).mono ?_
            rintro e w4 ⟨rfl, hb4⟩
            have c12 := (L.below (by omega) hb4).cell (lkL_tags (H6.out _ _ _) _)
            have R6 := Lib.hid (R.below (by omega) hb4)
            have B4 := B.trans (hb4.mono (by omega))
            clear R
            go_wp2_with (first
              | (go_at_call 20; refine (HT.out _).mono ?_; rintro e w5 ⟨rfl, rfl⟩)
              | (go_at_call 18; refine (HY2.out _).mono ?_; rintro e w5 ⟨rfl, rfl⟩)
              | ((with_reducible show wpList _ _ _ _ _ _); refine wpList_storeR rfl 27 _ _ rfl w.heap.size (by rfl) (lkL Lk.zero (.slice none 0 0)) (by exact congrArg Value.agg zeroC) _ R6.out rfl (sizeLkL Lk.six_zero _) (lkL_one _ _ rfl) ?_))
            refine bodyPost_ret (v := .tuple #[lkC Lk.zero (.slice none 0 0), .int .i64 2]) (results_lk rfl _ _ w.heap.size (by rfl) _ Lk.six_zero _ (R6.out.setRow_ _) _ (by rfl)) rfl ?_
            refine ⟨.slice none 0 0, ?_, ?_, below_setRow B4 (Nat.le_refl _) _⟩
            · rw [HR.out]; rfl
            · rw [HR.out]; exact OwnT.nil_ _ _
      · have ht : isTg (n : Int) = false := by simpa using ht
        have HT := Lib.hid (fun W => ht ▸ istag_any (n : Int) W)
        have hres : rdOf xs = (⟨D, S, ts, (n : Int), ((p + 2 : Nat) : Int)⟩, 0) := by
          obtain ⟨e1, e2⟩ := H12.out (hp12 hb)
          rw [← HGO.out, rdGo_ok (by rw [HL.out]; exact hb) (by rw [hn]; exact ht), hn, e1, e2]
        have HR := Lib.hid hres
        clear hn ht hres hI'
        go_wp2_with fail
        refine (HY.out _).mono ?_
        rintro e w4 ⟨rfl, rfl⟩
        go_wp2_with fail
        refine (HN.out).mono ?_
        rintro e w4 ⟨rfl, hb4⟩
        have z4 := hb4.size
        have R4 := R.below (by omega) hb4
        have L4 := L.below (by omega) hb4
        have B4 := B.trans (hb4.mono (by omega))
        have O4 := hown.below hb4
        have c13 := L4.cell (lkL_ty (H6.out _ _ _) tv)
        have c14 := L4.cell (lkL_at (H6.out _ _ _) tv)
        have f13 := L4.frozen 13
        have f14 := L4.frozen 14
        have L5 := (L4.set 13 (.int .i64 (n : Int)))
        rw [lkL_ty' (H6.out _ _ _)] at L5
        have L6 := (L5.set 14 (.int .i64 ((p + 2 : Nat) : Int)))
        rw [lkL_at' (H6.out _ _ _)] at L6
        have R6 := (R4.far (p := ⟨w.heap.size + 1, 13, none⟩) (by simp) (.int .i64 (n : Int))).far (p := ⟨w.heap.size + 1, 14, none⟩) (by simp) (.int .i64 ((p + 2 : Nat) : Int))
        have B6 := (B4.setCell (p := ⟨w.heap.size + 1, 13, none⟩) (by simp) (.int .i64 (n : Int))).setCell (p := ⟨w.heap.size + 1, 14, none⟩) (by simp) (.int .i64 ((p + 2 : Nat) : Int))
        have O6 : OwnT ((w4.setCell ⟨w.heap.size + 1, 13, none⟩ (.int .i64 (n : Int))).setCell ⟨w.heap.size + 1, 14, none⟩ (.int .i64 ((p + 2 : Nat) : Int))) (w.heap.size + 2) tv ts := by
          exact O4.kept1 (gb_set (gb_set (World.grownBy.refl w4 (some (w.heap.size + 1))) 13 _) 14 _) (by omega)
        have L6 := Lib.hid L6
        have R6 := Lib.hid R6
        have B6 := Lib.hid B6
        have O6 := Lib.hid O6
        clear L4 L5 R4 B4 O4 L R B hown
        rw [Int.natCast_add] at L6 R6 B6 O6
        go_wp2_with (first
          | (go_at_call 20; refine (HT.out _).mono ?_; rintro e w5 ⟨rfl, rfl⟩)
          | ((with_reducible show wpList _ _ _ _ _ _); refine wpList_loadL rfl _ rfl (w.heap.size + 1) (by rfl) _ (H6.out _ _ _) tv L6.out ?_)
          | ((with_reducible show wpList _ _ _ _ _ _); refine wpList_storeR rfl 27 _ _ rfl w.heap.size (by rfl) (lkL ⟨D, S, [], (n : Int), (p : Int) + 2⟩ tv) (by rfl) _ R6.out (by rw [lkL_len Lk.six_zero, lkL_len (H6.out _ _ _)]) (sizeLkL (H6.out _ _ _) tv) (lkL_one _ _ HONE.out) ?_))
        refine bodyPost_ret (v := .tuple #[lkC ⟨D, S, [], (n : Int), (p : Int) + 2⟩ tv, .int .i64 0]) (results_lk rfl _ _ w.heap.size (by rfl) _ (H6.out _ _ _) tv (R6.out.setRow_ (lkL ⟨D, S, [], (n : Int), (p : Int) + 2⟩ tv)) _ (by rfl)) rfl ?_
        refine ⟨tv, ?_, ?_, below_setRow B6.out (Nat.le_refl _) _⟩
        · rw [HR.out]; rfl
        · rw [HR.out]
          exact (O6.out.kept1 (gb_setRow (World.grownBy.refl _ (some w.heap.size)) _) (by omega)).base_le (by omega)
    · have HY := Lib.hid (fun W => isnum_no A len cap p (by omega) (by have := HK.out; omega) (by omega) W)
      have hres : rdOf xs = (Lk.zero, 2) := by rw [← HGO.out]; exact rdGo_end (by rw [HL.out]; omega)
      have HR := Lib.hid hres
      have R6 := Lib.hid R
      clear hres R
      go_wp2_with (first
        | (go_at_call 18; refine (HY.out _).mono ?_; rintro e w5 ⟨rfl, rfl⟩)
        | ((with_reducible show wpList _ _ _ _ _ _); refine wpList_storeR rfl 27 _ _ rfl w.heap.size (by rfl) (lkL Lk.zero (.slice none 0 0)) (by exact congrArg Value.agg zeroC) _ R6.out rfl (sizeLkL Lk.six_zero _) (lkL_one _ _ rfl) ?_))
      refine bodyPost_ret (v := .tuple #[lkC Lk.zero (.slice none 0 0), .int .i64 2]) (results_lk rfl _ _ w.heap.size (by rfl) _ Lk.six_zero _ (R6.out.setRow_ _) _ (by rfl)) rfl ?_
      refine ⟨.slice none 0 0, ?_, ?_, below_setRow B (Nat.le_refl _) _⟩
      · rw [HR.out]; rfl
      · rw [HR.out]; exact OwnT.nil_ _ _
end Go.Proofs.Ytbahlhafckkapaa
