/-
  The contract of the document's Read.
-/
import Derived.Test.YtbahlhafckkapaaLSmall
import Derived.Deep.RegionLaw
namespace Go.Proofs.Ytbahlhafckkapaa
open Go.RowKit Go.Lib

set_option maxHeartbeats 1000000 in
/-- The document's two, at a number that comes to p. -/
theorem two_any' {A : Option Addr} {len : Nat} {cap p : Nat} {xs : List UInt8} (z : Int) (hz : z = (p : Int)) (n : Nat) (hn : wd xs p = n) (hlen : len ≤ 1000000000) (h : p + 2 ≤ len) {w : World} {B : Nat} (hI : Rd w B A len xs) :
    Calls Try.prog 22 #[.slice A len cap, .int .i64 z] w fun e w' => e = .returned (.int .i64 (n : Int)) ∧ ∃ n, w' = w.drewN n := by subst hz hn; exact two_any hlen h hI

/-- f up to k, nought from there on: the first k bytes laid over six noughts. -/
def fill6 (ys : List UInt8) (k : Nat) : List UInt8 := ys.take k ++ List.replicate (6 - k) 0
theorem fill6_len (ys : List UInt8) (k : Nat) (hk : k ≤ 6) (hy : ys.length = 6) : (fill6 ys k).length = 6 := by
  unfold fill6; rw [List.length_append, List.length_take, List.length_replicate]; omega
theorem fill6_set (ys : List UInt8) (k : Nat) (hk : k < 6) (hy : ys.length = 6) (x : UInt8) (hx : ys[k]? = some x) : (fill6 ys k).set k x = fill6 ys (k + 1) := by
  unfold fill6
  rw [List.set_append_right _ _ (by rw [List.length_take]; omega), List.length_take, Nat.min_eq_left (by omega), Nat.sub_self]
  obtain ⟨m, hm⟩ : ∃ m, 6 - k = m + 1 := ⟨5 - k, by omega⟩
  rw [hm, List.replicate_succ, show 6 - (k + 1) = m by omega, List.set_cons_zero]
  have : ys.take (k + 1) = ys.take k ++ [x] := by
    obtain ⟨hl, hx⟩ := List.getElem?_eq_some_iff.1 hx
    rw [← hx]; exact (List.take_append_getElem hl).symm
  rw [this, List.append_assoc]
  rfl
theorem fill6_all (ys : List UInt8) (hy : ys.length = 6) : fill6 ys 6 = ys := by unfold fill6; rw [List.take_of_length_le (by omega)]; simp
theorem fill6_none (ys : List UInt8) : fill6 ys 0 = zeros6 := by unfold fill6; simp [zeros6]
theorem lkL_set_d {d s : List UInt8} {ts : List Tg} {ty at_ : Int} (hd : d.length = 6) (tv : Value) (k : Nat) (hk : k < 6) (x : UInt8) : (lkL ⟨d, s, ts, ty, at_⟩ tv).set k (.int .u8 (x.toNat : Int)) = lkL ⟨d.set k x, s, ts, ty, at_⟩ tv := by
  unfold lkL
  rw [List.set_append_left _ _ (by rw [List.length_map]; show k < d.length; omega)]
  rw [show Value.int .u8 (x.toNat : Int) = v8 x from rfl, ← List.map_set]
theorem lkL_set_s {d s : List UInt8} {ts : List Tg} {ty at_ : Int} (hd : d.length = 6) (hs : s.length = 6) (tv : Value) (k : Nat) (hk : k < 6) (x : UInt8) : (lkL ⟨d, s, ts, ty, at_⟩ tv).set (6 + k) (.int .u8 (x.toNat : Int)) = lkL ⟨d, s.set k x, ts, ty, at_⟩ tv := by
  unfold lkL
  rw [List.set_append_right _ _ (by rw [List.length_map]; show d.length ≤ 6 + k; omega), List.length_map, hd, Nat.add_sub_cancel_left, List.set_append_left _ _ (by rw [List.length_map]; show k < s.length; omega)]
  rw [show Value.int .u8 (x.toNat : Int) = v8 x from rfl, ← List.map_set]
theorem lkL_get_d {L : Lk} (h : L.Six) (tv : Value) (k : Nat) (hk : k < 6) : ∃ x : UInt8, (lkL L tv)[k]? = some (.int .u8 (x.toNat : Int)) := by
  obtain ⟨x, hx⟩ : ∃ x, L.d[k]? = some x := ⟨_, List.getElem?_eq_getElem (by rw [h.d]; exact hk)⟩
  refine ⟨x, ?_⟩
  unfold lkL
  rw [List.getElem?_append_left (by rw [List.length_map, h.d]; exact hk), List.getElem?_map, hx]
  rfl
theorem lkL_get_s {L : Lk} (h : L.Six) (tv : Value) (k : Nat) (hk : k < 6) : ∃ x : UInt8, (lkL L tv)[6 + k]? = some (.int .u8 (x.toNat : Int)) := by
  obtain ⟨x, hx⟩ : ∃ x, L.s[k]? = some x := ⟨_, List.getElem?_eq_getElem (by rw [h.s]; exact hk)⟩
  refine ⟨x, ?_⟩
  unfold lkL
  rw [List.getElem?_append_right (by rw [List.length_map, h.d]; omega), List.length_map, h.d, Nat.add_sub_cancel_left, List.getElem?_append_left (by rw [List.length_map, h.s]; exact hk), List.getElem?_map, hx]
  rfl

set_option maxRecDepth 100000 in
set_option maxHeartbeats 2000000 in
theorem rread_any (A : Option Addr) (len cap : Nat) (xs : List UInt8) (hlen : len ≤ 1000000) (w : World) (hI : Rd w w.heap.size A len xs) :
    Calls Try.prog 11 #[.slice A len cap] w (ReadGave w (rdOf xs)) := by
  have HL := Lib.hid hI.len
  obtain ⟨Z, hZ⟩ : ∃ Z : World, (w.alloc (.cells (lkL Lk.zero (.slice none 0 0)).toArray 27)).alloc (.cells (lkL Lk.zero (.slice none 0 0)).toArray 27) = Z := ⟨_, rfl⟩
  have b1 : Blk Z 27 w.heap.size (lkL Lk.zero (.slice none 0 0)) := by
    rw [← hZ]; exact (Blk.new w _ _).alloc _
  have b2 : Blk Z 27 (w.heap.size + 1) (lkL Lk.zero (.slice none 0 0)) := by
    rw [← hZ]
    have := Blk.new (w.alloc (.cells (lkL Lk.zero (.slice none 0 0)).toArray 27)) 27 (lkL Lk.zero (.slice none 0 0))
    simpa using this
  have hB0 : Below w.heap.size w Z := by
    rw [← hZ]; exact ((Below.refl w.heap.size w).alloc (Nat.le_refl _) _).alloc (by simp) _
  have hz : Z.heap.size = w.heap.size + 2 := by rw [← hZ]; simp
  rw [← zeroC] at hZ
  have h6 : ∀ ts ty at_, Lk.Six ⟨zeros6, zeros6, ts, ty, at_⟩ := fun _ _ _ => ⟨rfl, rfl⟩
  have HB0 := Lib.hid hB0
  have HB1 := Lib.hid b1
  have HB2 := Lib.hid b2
  have HZ := Lib.hid hz
  have HZZ := Lib.hid hZ
  have H6 := Lib.hid h6
  clear hB0 b1 b2 hz hZ h6
  go_enter Try.func11, Try.ntmps11
  go_wp2_with fail
  rw [HZZ.out]
  go_loopw [5] (fun at_ wr => ∃ (k p : Nat) (ts : List Tg) (tv : Value), at_ = .int .i64 (p : Int) ∧ k + ts.length = 2 ∧ p = 12 + 4 * ts.length ∧ rdGo xs (k + 1) ts p = rdOf xs ∧ w.heap.size + 2 ≤ wr.heap.size ∧ OwnT wr (w.heap.size + 2) tv ts ∧ Blk wr 27 w.heap.size (lkL Lk.zero (.slice none 0 0)) ∧ Blk wr 27 (w.heap.size + 1) (lkL ⟨zeros6, zeros6, [], 0, 0⟩ tv) ∧ Below w.heap.size w wr) (fun at_ _ => 100 - (intOf at_).toNat)
  case atStart => exact ⟨2, 12, [], _, rfl, rfl, rfl, rfl, Nat.le_of_eq HZ.out.symm, OwnT.nil_ _ _, HB1.out, HB2.out, HB0.out⟩
  case round =>
    obtain ⟨k, p, ts, tv, rfl, hk, hp, hgo, hz, hown, R, L, B⟩ := hrel
    have HGO := Lib.hid hgo
    have HK := Lib.hid hk
    have HONE := Lib.hid hown.one
    have HP := Lib.hid hp
    have hp40 : p ≤ 20 := by omega
    clear hgo hk hp
    have hI' := hI.below B
    by_cases hb : p + 2 ≤ len
    · obtain ⟨n, hn⟩ : ∃ n : Nat, wd xs p = n := ⟨_, rfl⟩
      have hnl : n < 65536 := by rw [← hn]; exact wd_lt xs p
      have HN := Lib.hid (fun W (hW : Rd W w.heap.size A len xs) => two_any' (cap := cap) (p : Int) rfl n hn (by omega) hb hW)
      have hwp : IntKind.i64.wrap ((p : Int) + 2) = (p : Int) + 2 := by rw [IntKind.wrap_i64]; omega
      have hb' : (p : Int) + 2 ≤ (len : Int) := by omega
      by_cases ht : isTg (n : Int) = true
      · have HT := Lib.hid (fun W => ht ▸ rtag_any (n : Int) W)
        obtain ⟨A5, m5, c5, rfl, hm5, hmc5, hcm5, _, _⟩ := hown.sl
        match k with
        | 0 =>
          have hm2 : m5 = 2 := by have := HK.out; omega
          subst hm2
          have hres : rdOf xs = (Lk.zero, 4) := by rw [← HGO.out]; exact rdGo_long (by rw [HL.out]; exact hb) (by rw [hn]; exact ht)
          have HR := Lib.hid hres
          clear hres hn ht hm5
          go_wp2_with fail
          refine (HN.out _ hI').mono ?_
          rintro e w4 ⟨rfl, hq⟩
          have L4 : Blk w4 27 (w.heap.size + 1) (lkL ⟨zeros6, zeros6, [], 0, 0⟩ (.slice A5 2 c5)) := by obtain ⟨q, rfl⟩ := hq; exact L
          have R4 : Blk w4 27 w.heap.size (lkL Lk.zero (.slice none 0 0)) := by obtain ⟨q, rfl⟩ := hq; exact R
          have B4 : Below w.heap.size w w4 := by obtain ⟨q, rfl⟩ := hq; exact below_drewN B q
          have c12 := L4.cell (lkL_tags (H6.out _ _ _) _)
          have R6 := Lib.hid R4
          clear R R4 hq
          go_wp2_with (first
            | (go_at_call 21; refine (HT.out _).mono ?_; rintro e w5 ⟨rfl, rfl⟩)
            | ((with_reducible show wpList _ _ _ _ _ _); refine wpList_storeR rfl 27 _ _ rfl w.heap.size (by rfl) (lkL Lk.zero (.slice none 0 0)) (by exact congrArg Value.agg zeroC) _ R6.out rfl (sizeLkL Lk.six_zero _) (lkL_one _ _ rfl) ?_))
          refine bodyPost_ret (v := .tuple #[lkC Lk.zero (.slice none 0 0), .int .i64 4]) (results_lk rfl _ _ w.heap.size (by rfl) _ Lk.six_zero _ (R6.out.setRow_ _) _ (by rfl)) rfl ?_
          refine ⟨.slice none 0 0, ?_, ?_, below_setRow B4 (Nat.le_refl _) _⟩
          · rw [HR.out]; rfl
          · rw [HR.out]; exact OwnT.nil_ _ _
        | k + 1 =>
          have hm2 : ((m5 : Int) == 2) = false := beq_eq_false_iff_ne.2 (by have := HK.out; omega)
          have hm2' : (m5 == 2) = false := beq_eq_false_iff_ne.2 (by have := HK.out; omega)
          have hwp6 : IntKind.i64.wrap ((p : Int) + 6) = (p : Int) + 6 := by rw [IntKind.wrap_i64]; omega
          by_cases hb2 : p + 6 ≤ len
          · obtain ⟨n2, hn2⟩ : ∃ n2 : Nat, wd xs (p + 2) = n2 := ⟨_, rfl⟩
            have hw2l : n2 < 65536 := by rw [← hn2]; exact wd_lt xs (p + 2)
            have HN2 := Lib.hid (fun W (hW : Rd W w.heap.size A len xs) => two_any' (cap := cap) ((p : Int) + 2) (show (p : Int) + 2 = ((p + 2 : Nat) : Int) by omega) n2 hn2 (by omega) (by omega) hW)
            have hgo2 : rdGo xs (k + 1) (ts ++ [⟨(n : Int), (n2 : Int)⟩]) (p + 4) = rdOf xs := by
              rw [← HGO.out, rdGo_tag (by rw [HL.out]; exact hb) (by rw [hn]; exact ht), hn, hn2]
            have HGO2 := Lib.hid hgo2
            have hb6' : ¬ (len : Int) < (p : Int) + 6 := by omega
            have HM5 := Lib.hid hm5
            have hw4 : IntKind.i64.wrap ((p : Int) + 4) = (p : Int) + 4 := by rw [IntKind.wrap_i64]; omega
            clear hgo2 hn hn2 ht hm5
            go_wp2_with fail
            refine (HN.out _ hI').mono ?_
            rintro e w4 ⟨rfl, hq⟩
            have L4 : Blk w4 27 (w.heap.size + 1) (lkL ⟨zeros6, zeros6, [], 0, 0⟩ (.slice A5 m5 c5)) := by obtain ⟨q, rfl⟩ := hq; exact L
            have R4 : Blk w4 27 w.heap.size (lkL Lk.zero (.slice none 0 0)) := by obtain ⟨q, rfl⟩ := hq; exact R
            have B4 : Below w.heap.size w w4 := by obtain ⟨q, rfl⟩ := hq; exact below_drewN B q
            have O4 : OwnT w4 (w.heap.size + 2) (.slice A5 m5 c5) ts := by obtain ⟨q, rfl⟩ := hq; exact hown
            have z4 : wr.heap.size = w4.heap.size := by obtain ⟨q, rfl⟩ := hq; rfl
            have HI4 := Lib.hid (hI.below B4)
            have c12 := L4.cell (lkL_tags (H6.out _ _ _) _)
            have ob : ∀ g, (Value.slice A5 m5 c5).ownBlock = some g → w.heap.size + 2 ≤ g := fun g hg => (O4.lt g hg).1
            have OB := Lib.hid ob
            have L4 := Lib.hid L4
            have R4 := Lib.hid R4
            have O4 := Lib.hid O4
            have hz4 : w.heap.size + 2 ≤ w4.heap.size := by rw [← z4]; exact hz
            have hca : ∀ (q : Nat) (o : Obj), ((w4.drewN q).alloc o).cell? ⟨w.heap.size + 1, 12, none⟩ = some (.slice A5 m5 c5) := fun q o => (World.cell?_alloc_lt (w4.drewN q) o ⟨w.heap.size + 1, 12, none⟩ (by simp; omega)).trans c12
            have Z4 := Lib.hid z4
            clear L R hq hown ob z4
            go_wp2_with (first
              | (go_at_call 21; refine (HT.out _).mono ?_; rintro e w5 ⟨rfl, rfl⟩))
            go_region_law (first
              | (rw [if_pos (by rfl)]; go_simp; (with_reducible refine (HN.out _ ?hr).mono ?_); (case hr => exact HI4.out); rintro e w6 ⟨rfl, q6, rfl⟩)
              | (rw [if_pos (by rfl)]; go_simp; (with_reducible refine (HN2.out _ ?hr).mono ?_); (case hr => exact HI4.out); rintro e w6 ⟨rfl, q7, rfl⟩)
              | (refine step_appendT (by rfl) (.tmp 30) (.tmp 39) (by rfl) (w.heap.size + 2) (.slice A5 m5 c5) ts ⟨(n : Int), (n2 : Int)⟩ (by simp [Act.eval]) w4.heap.size (by simp [Act.eval]) (OwnT.alloc (by exact O4.out) _) (by have := HK.out; omega) (by simp; omega) (Blk.new _ _ _) ?_; intro v7 w7 hO7 hg7 hob7; have L7 : Blk w7 27 (w.heap.size + 1) (lkL ⟨zeros6, zeros6, [], 0, 0⟩ (.slice A5 m5 c5)) := Blk.grown (Blk.alloc (by exact L4.out) _) hg7 (fun e => by have := OB.out _ e; omega); have R7 : Blk w7 27 w.heap.size (lkL Lk.zero (.slice none 0 0)) := Blk.grown (Blk.alloc (by exact R4.out) _) hg7 (fun e => by have := OB.out _ e; omega); obtain ⟨A7, m7, c7, rfl, hm7, _, _, _, _⟩ := hO7.sl; have HM7 := Lib.hid hm7; clear hm7; have d12 := L7.cell (lkL_tags (H6.out _ _ _) _); have d12f := L7.frozen 12))
            all_goals
              have e7 : Below w.heap.size w w7 := Below.grown (Below.alloc (by exact below_drewN B4 _) (by simp; omega) _) hg7 (by simp; omega) (fun g hg => by have := OB.out g hg; omega)
              have e8 := e7.setCell (p := ⟨w.heap.size + 1, 12, none⟩) (by simp) (.slice A7 m7 c7)
              have L8 := L7.set 12 (.slice A7 m7 c7)
              rw [lkL_tags' (H6.out _ _ _)] at L8
              have R8 := R7.far (p := ⟨w.heap.size + 1, 12, none⟩) (by simp) (.slice A7 m7 c7)
              have O8 := hO7.kept1 (gb_set (World.grownBy.refl w7 (some (w.heap.size + 1))) 12 (.slice A7 m7 c7)) (by omega)
              have z8 : w.heap.size + 2 ≤ (w7.setCell ⟨w.heap.size + 1, 12, none⟩ (.slice A7 m7 c7)).heap.size := by
                have h1 := hg7.size; simp [World.setCell] at h1 ⊢; omega
              have E8 := Lib.hid e8
              have L8 := Lib.hid L8
              have R8 := Lib.hid R8
              have O8 := Lib.hid O8
              have Z8 := Lib.hid z8
              clear e7 e8 L7 R7 hO7 hg7 hob7 d12 d12f c12 z8 hca
              go_wp2_with fail
              clear hwp hw4 hwp6
              go_roundw
              case rel => exact ⟨k, p + 4, ts ++ [⟨(n : Int), (n2 : Int)⟩], _, by go_num, by have := HK.out; rw [List.length_append, List.length_singleton]; omega, by have := HP.out; rw [List.length_append, List.length_singleton]; omega, HGO2.out, Z8.out, O8.out, R8.out, L8.out, E8.out⟩
              case measure => simp [intOf]; omega
          · have hres : rdOf xs = (Lk.zero, 2) := by
              rw [← HGO.out, rdGo_tag (by rw [HL.out]; exact hb) (by rw [hn]; exact ht)]
              exact rdGo_end (by rw [HL.out]; omega)
            have HR := Lib.hid hres
            have hb6' : (len : Int) < (p : Int) + 6 := by omega
            clear hres hn ht hm5
            go_wp2_with fail
            refine (HN.out _ hI').mono ?_
            rintro e w4 ⟨rfl, hq⟩
            have L4 : Blk w4 27 (w.heap.size + 1) (lkL ⟨zeros6, zeros6, [], 0, 0⟩ (.slice A5 m5 c5)) := by obtain ⟨q, rfl⟩ := hq; exact L
            have R4 : Blk w4 27 w.heap.size (lkL Lk.zero (.slice none 0 0)) := by obtain ⟨q, rfl⟩ := hq; exact R
            have B4 : Below w.heap.size w w4 := by obtain ⟨q, rfl⟩ := hq; exact below_drewN B q
            have c12 := L4.cell (lkL_tags (H6.out _ _ _) _)
            have R6 := Lib.hid R4
            clear R R4 hq
            go_wp2_with (first
              | (go_at_call 21; refine (HT.out _).mono ?_; rintro e w5 ⟨rfl, rfl⟩)
              | ((with_reducible show wpList _ _ _ _ _ _); refine wpList_storeR rfl 27 _ _ rfl w.heap.size (by rfl) (lkL Lk.zero (.slice none 0 0)) (by exact congrArg Value.agg zeroC) _ R6.out rfl (sizeLkL Lk.six_zero _) (lkL_one _ _ rfl) ?_))
            refine bodyPost_ret (v := .tuple #[lkC Lk.zero (.slice none 0 0), .int .i64 2]) (results_lk rfl _ _ w.heap.size (by rfl) _ Lk.six_zero _ (R6.out.setRow_ _) _ (by rfl)) rfl ?_
            refine ⟨.slice none 0 0, ?_, ?_, below_setRow B4 (Nat.le_refl _) _⟩
            · rw [HR.out]; rfl
            · rw [HR.out]; exact OwnT.nil_ _ _
      · have ht : isTg (n : Int) = false := by simpa using ht
        have HT := Lib.hid (fun W => ht ▸ rtag_any (n : Int) W)
        have hx12 : 12 ≤ len := by have := HP.out; omega
        have hD6 : (xs.take 6).length = 6 := by rw [List.length_take, HL.out]; omega
        have hS6 : ((xs.drop 6).take 6).length = 6 := by rw [List.length_take, List.length_drop, HL.out]; omega
        have hDx : ∀ j, j < 6 → (xs.take 6)[j]? = xs[j]? := fun j hj => List.getElem?_take_of_lt hj
        have hSx : ∀ j, j < 6 → ((xs.drop 6).take 6)[j]? = xs[6 + j]? := fun j hj => by rw [List.getElem?_take_of_lt hj, List.getElem?_drop]
        have hres : rdOf xs = (⟨xs.take 6, (xs.drop 6).take 6, ts, (n : Int), ((p + 2 : Nat) : Int)⟩, 0) := by
          rw [← HGO.out, rdGo_ok (by rw [HL.out]; exact hb) (by rw [hn]; exact ht), hn]
        obtain ⟨D, hD⟩ : ∃ D, xs.take 6 = D := ⟨_, rfl⟩
        obtain ⟨S, hS⟩ : ∃ S, (xs.drop 6).take 6 = S := ⟨_, rfl⟩
        rw [hD] at hD6 hres hDx
        rw [hS] at hS6 hres hSx
        have HR := Lib.hid hres
        have HDX := Lib.hid hDx
        have HSX := Lib.hid hSx
        have HD6 := Lib.hid hD6
        have HS6 := Lib.hid hS6
        have h6k : ∀ k ts ty at_, k ≤ 6 → Lk.Six ⟨fill6 D k, fill6 S k, ts, ty, at_⟩ := fun k _ _ _ hk => ⟨fill6_len D k hk hD6, fill6_len S k hk hS6⟩
        have H6K := Lib.hid h6k
        have h6k' : ∀ k ts ty at_, k < 6 → Lk.Six ⟨fill6 D (k + 1), fill6 S k, ts, ty, at_⟩ := fun k _ _ _ hk => ⟨fill6_len D (k + 1) (by omega) hD6, fill6_len S k (by omega) hS6⟩
        have H6K' := Lib.hid h6k'
        have hb2 : ¬ (len : Int) < (p : Int) + 2 := by omega
        clear hres hDx hSx hD hS hn ht hD6 hS6 h6k h6k'
        go_wp2_with fail
        refine (HN.out _ hI').mono ?_
        rintro e w4 ⟨rfl, hq⟩
        have L4 : Blk w4 27 (w.heap.size + 1) (lkL ⟨fill6 D 0, fill6 S 0, [], 0, 0⟩ tv) := by obtain ⟨q, rfl⟩ := hq; rw [fill6_none, fill6_none]; exact L
        have R4 : Blk w4 27 w.heap.size (lkL Lk.zero (.slice none 0 0)) := by obtain ⟨q, rfl⟩ := hq; exact R
        have B4 : Below w.heap.size w w4 := by obtain ⟨q, rfl⟩ := hq; exact below_drewN B q
        have O4 : OwnT w4 (w.heap.size + 2) tv ts := by obtain ⟨q, rfl⟩ := hq; exact hown
        have L4 := Lib.hid L4
        have R4 := Lib.hid R4
        have B4 := Lib.hid B4
        have O4 := Lib.hid O4
        clear L R B hown hq hI'
        go_wp2_with (first
          | (go_at_call 21; refine (HT.out _).mono ?_; rintro e w5 ⟨rfl, rfl⟩))
        go_loopw [6] (fun i wr => ∃ k : Nat, k ≤ 6 ∧ i = .int .i64 (k : Int) ∧ OwnT wr (w.heap.size + 2) tv ts ∧ Blk wr 27 w.heap.size (lkL Lk.zero (.slice none 0 0)) ∧ Blk wr 27 (w.heap.size + 1) (lkL ⟨fill6 D k, fill6 S k, [], 0, 0⟩ tv) ∧ Below w.heap.size w wr) (fun i _ => 6 - (intOf i).toNat)
        case atStart => exact ⟨0, by omega, rfl, O4.out, R4.out, L4.out, B4.out⟩
        case round =>
          clear O4 R4 L4 B4
          obtain ⟨j, hj, rfl, O, R, L, B⟩ := hrel
          by_cases hlt : j < 6
          · have hlt' : (j : Int) < 6 := by omega
            have hI5 := hI.below B
            obtain ⟨b, off, rfl, _⟩ := hI5.addr (by omega)
            have g1 := hI5.cell (k := j) (by omega)
            have g2 := hI5.cell (k := 6 + j) (by omega)
            obtain ⟨x, hx⟩ : ∃ x, xs[j]'(by rw [HL.out]; omega) = x := ⟨_, rfl⟩
            obtain ⟨y, hy⟩ : ∃ y, xs[6 + j]'(by rw [HL.out]; omega) = y := ⟨_, rfl⟩
            rw [hx] at g1
            rw [hy] at g2
            have hbB : b < w.heap.size := by obtain ⟨b', o', e, h⟩ := hI.addr (by omega); cases e; exact h
            have hdx : D[j]? = some x := by rw [HDX.out j hlt, List.getElem?_eq_getElem (by rw [HL.out]; omega), hx]
            have hsx : S[j]? = some y := by rw [HSX.out j hlt, List.getElem?_eq_getElem (by rw [HL.out]; omega), hy]
            have HDE := Lib.hid (fill6_set D j hlt HD6.out x hdx)
            have HSE := Lib.hid (fill6_set S j hlt HS6.out y hsx)
            obtain ⟨u1, hu1⟩ := lkL_get_d (H6K.out j [] 0 0 hj) tv j hlt
            have c1 := L.cell hu1
            have f1 := L.frozen j
            have L5 := L.set j (.int .u8 (x.toNat : Int))
            rw [lkL_set_d (fill6_len D j hj HD6.out) tv j hlt x, HDE.out] at L5
            obtain ⟨u2, hu2⟩ := lkL_get_s (H6K'.out j [] 0 0 hlt) tv j hlt
            have c2 := L5.cell hu2
            have f2 := L5.frozen (6 + j)
            have g2' : (wr.setCell ⟨w.heap.size + 1, j, none⟩ (.int .u8 (x.toNat : Int))).cell? ⟨b, off + (6 + j), none⟩ = some (.int .u8 (y.toNat : Int)) := by
              rw [World.cell?_setCell_other _ _ _ _ (fun e => by have := congrArg Addr.block e; simp at this; omega)]; exact g2
            have L6 := L5.set (6 + j) (.int .u8 (y.toNat : Int))
            rw [lkL_set_s (fill6_len D (j + 1) (by omega) HD6.out) (fill6_len S j hj HS6.out) tv j hlt y, HSE.out] at L6
            have R6 := (R.far (p := ⟨w.heap.size + 1, j, none⟩) (by simp) (.int .u8 (x.toNat : Int))).far (p := ⟨w.heap.size + 1, 6 + j, none⟩) (by simp) (.int .u8 (y.toNat : Int))
            have B6 := (B.setCell (p := ⟨w.heap.size + 1, j, none⟩) (by simp) (.int .u8 (x.toNat : Int))).setCell (p := ⟨w.heap.size + 1, 6 + j, none⟩) (by simp) (.int .u8 (y.toNat : Int))
            have O6 := O.kept1 (gb_set (gb_set (World.grownBy.refl wr (some (w.heap.size + 1))) j (.int .u8 (x.toNat : Int))) (6 + j) (.int .u8 (y.toNat : Int))) (by omega)
            have L6 := Lib.hid L6
            have R6 := Lib.hid R6
            have B6 := Lib.hid B6
            have O6 := Lib.hid O6
            have hwj : IntKind.i64.wrap (6 + (j : Int)) = 6 + (j : Int) := by rw [IntKind.wrap_i64]; omega
            have hl6 : (6 : Int) + (j : Int) < (len : Int) := by omega
            have hlj : (j : Int) < (len : Int) := by omega
            have ht6 : (6 + (j : Int)).toNat = 6 + j := by omega
            clear hx hy hdx hsx hu1 hu2 L5 L R B O hI5 g2
            go_wp2_with fail
            go_roundw
            case rel => exact ⟨j + 1, by omega, by go_num, O6.out, R6.out, L6.out, B6.out⟩
            case measure => simp [intOf]; omega
          · obtain rfl : j = 6 := by omega
            rw [fill6_all D HD6.out, fill6_all S HS6.out] at L
            have h6f : ∀ ts ty at_, Lk.Six ⟨D, S, ts, ty, at_⟩ := fun _ _ _ => ⟨HD6.out, HS6.out⟩
            have H6F := Lib.hid h6f
            have hI5 := hI.below B
            clear hlt hj h6f
            go_wp2_with fail
            refine (HN.out _ hI5).mono ?_
            rintro e w4 ⟨rfl, hq⟩
            have L4 : Blk w4 27 (w.heap.size + 1) (lkL ⟨D, S, [], 0, 0⟩ tv) := by obtain ⟨q, rfl⟩ := hq; exact L
            have R4 : Blk w4 27 w.heap.size (lkL Lk.zero (.slice none 0 0)) := by obtain ⟨q, rfl⟩ := hq; exact R
            have B4 : Below w.heap.size w w4 := by obtain ⟨q, rfl⟩ := hq; exact below_drewN B q
            have O4 : OwnT w4 (w.heap.size + 2) tv ts := by obtain ⟨q, rfl⟩ := hq; exact O
            have c13 := L4.cell (lkL_ty (H6F.out _ _ _) tv)
            have c14 := L4.cell (lkL_at (H6F.out _ _ _) tv)
            have f13 := L4.frozen 13
            have f14 := L4.frozen 14
            have L5 := (L4.set 13 (.int .i64 (n : Int)))
            rw [lkL_ty' (H6F.out _ _ _)] at L5
            have L6 := (L5.set 14 (.int .i64 ((p : Int) + 2)))
            rw [lkL_at' (H6F.out _ _ _)] at L6
            have R6 := (R4.far (p := ⟨w.heap.size + 1, 13, none⟩) (by simp) (.int .i64 (n : Int))).far (p := ⟨w.heap.size + 1, 14, none⟩) (by simp) (.int .i64 ((p : Int) + 2))
            have B6 := (B4.setCell (p := ⟨w.heap.size + 1, 13, none⟩) (by simp) (.int .i64 (n : Int))).setCell (p := ⟨w.heap.size + 1, 14, none⟩) (by simp) (.int .i64 ((p : Int) + 2))
            have O6 : OwnT ((w4.setCell ⟨w.heap.size + 1, 13, none⟩ (.int .i64 (n : Int))).setCell ⟨w.heap.size + 1, 14, none⟩ (.int .i64 ((p : Int) + 2))) (w.heap.size + 2) tv ts :=
              O4.kept1 (gb_set (gb_set (World.grownBy.refl w4 (some (w.heap.size + 1))) 13 _) 14 _) (by omega)
            have L6 := Lib.hid L6
            have R6 := Lib.hid R6
            have B6 := Lib.hid B6
            have O6 := Lib.hid O6
            clear L4 L5 R4 B4 O4 L R B O hq hI5
            go_wp2_with (first
              | ((with_reducible show wpList _ _ _ _ _ _); refine wpList_loadL rfl _ rfl (w.heap.size + 1) (by rfl) _ (H6F.out _ _ _) tv L6.out ?_)
              | ((with_reducible show wpList _ _ _ _ _ _); refine wpList_storeR rfl 27 _ _ rfl w.heap.size (by rfl) (lkL ⟨D, S, [], (n : Int), (p : Int) + 2⟩ tv) (by rfl) _ R6.out (by rw [lkL_len Lk.six_zero, lkL_len (H6F.out _ _ _)]) (sizeLkL (H6F.out _ _ _) tv) (lkL_one _ _ HONE.out) ?_))
            refine bodyPost_ret (v := .tuple #[lkC ⟨D, S, [], (n : Int), (p : Int) + 2⟩ tv, .int .i64 0]) (results_lk rfl _ _ w.heap.size (by rfl) _ (H6F.out _ _ _) tv (R6.out.setRow_ (lkL ⟨D, S, [], (n : Int), (p : Int) + 2⟩ tv)) _ (by rfl)) rfl ?_
            refine ⟨tv, ?_, ?_, below_setRow B6.out (Nat.le_refl _) _⟩
            · rw [HR.out]; rfl
            · rw [HR.out]
              exact (O6.out.kept1 (gb_setRow (World.grownBy.refl _ (some w.heap.size)) _) (by omega)).base_le (by omega)
    · have hb' : ¬ (p : Int) + 2 ≤ (len : Int) := by omega
      have hb2 : (len : Int) < (p : Int) + 2 := by omega
      have hwp : IntKind.i64.wrap ((p : Int) + 2) = (p : Int) + 2 := by rw [IntKind.wrap_i64]; omega
      have hres : rdOf xs = (Lk.zero, 2) := by rw [← HGO.out]; exact rdGo_end (by rw [HL.out]; omega)
      have HR := Lib.hid hres
      have R6 := Lib.hid R
      clear hres R
      go_wp2_with (first
        | ((with_reducible show wpList _ _ _ _ _ _); refine wpList_storeR rfl 27 _ _ rfl w.heap.size (by rfl) (lkL Lk.zero (.slice none 0 0)) (by exact congrArg Value.agg zeroC) _ R6.out rfl (sizeLkL Lk.six_zero _) (lkL_one _ _ rfl) ?_))
      refine bodyPost_ret (v := .tuple #[lkC Lk.zero (.slice none 0 0), .int .i64 2]) (results_lk rfl _ _ w.heap.size (by rfl) _ Lk.six_zero _ (R6.out.setRow_ _) _ (by rfl)) rfl ?_
      refine ⟨.slice none 0 0, ?_, ?_, below_setRow B (Nat.le_refl _) _⟩
      · rw [HR.out]; rfl
      · rw [HR.out]; exact OwnT.nil_ _ _
end Go.Proofs.Ytbahlhafckkapaa
