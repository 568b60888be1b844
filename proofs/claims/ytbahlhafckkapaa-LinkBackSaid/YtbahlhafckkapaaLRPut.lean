/-
  The contracts of the document's Right and Put.
-/
import Derived.Test.YtbahlhafckkapaaLSmall
namespace Go.Proofs.Ytbahlhafckkapaa
open Go.RowKit Go.Lib

theorem fits_no {n : Int} (h0 : 0 ≤ n) (h1 : n ≤ 65535) : fitsB n = true := decide_eq_true (by omega)
theorem right_long {L : Lk} (h : 2 < L.ts.length) : rightB L = false := by unfold rightB; rw [decide_eq_false (by omega)]; rfl
theorem right_ty {L : Lk} (h : fitsB L.ty = false) : rightB L = false := by unfold rightB; rw [h]; simp
theorem right_tg {L : Lk} (h : isTg L.ty = true) : rightB L = false := by unfold rightB; rw [h]; simp
theorem right_ts {L : Lk} (h1 : L.ts.length ≤ 2) (h2 : fitsB L.ty = true) (h3 : isTg L.ty = false) : rightB L = L.ts.all tgOk := by unfold rightB; rw [decide_eq_true h1, h2, h3]; simp

set_option maxRecDepth 100000 in
set_option maxHeartbeats 2000000 in
theorem right_any (L : Lk) (h6 : L.Six) {A : Option Addr} {n : Nat} (cap : Nat) (hn : n ≤ 1000000) {w : World} (hT : TagsAt w w.heap.size A n L.ts) (r : Bool) (hr : rightB L = r) :
    Calls Try.prog 14 #[lkC L (.slice A n cap)] w fun e w' => e = .returned (.bool r) ∧ Below w.heap.size w w' := by
  have hsz := hT.size
  have hb1 := Blk.new w 27 (lkL L (.slice A n cap))
  have hB1 := (Below.refl w.heap.size w).alloc (Nat.le_refl _) (.cells (lkL L (.slice A n cap)).toArray 27)
  have hT1 := hT.below hB1
  have c12 := hb1.cell (lkL_tags h6 _)
  have c13 := hb1.cell (lkL_ty h6 _)
  have hT1 := hT.below hB1
  unfold lkC
  generalize lkL L (.slice A n cap) = C at *
  have HB := Lib.hid hB1
  have HT := Lib.hid hT1
  have HTG := Lib.hid (fun W => rtag_any L.ty W)
  clear hb1 hB1 hT1
  by_cases h2 : 2 < n
  · rw [right_long (by rw [hsz]; exact h2)] at hr
    subst hr
    have h2' : (2 : Int) < (n : Int) := by omega
    clear hsz
    go_enter Try.func14, Try.ntmps14
    go_wp2_with fail
    go_ret
    exact ⟨rfl, HB.out⟩
  · have h2' : ¬ (2 : Int) < (n : Int) := by omega
    by_cases hf0 : L.ty < 0
    · rw [right_ty (show fitsB L.ty = false from decide_eq_false (by omega))] at hr
      subst hr
      clear hsz
      go_enter Try.func14, Try.ntmps14
      go_wp2_with fail
      go_ret
      exact ⟨rfl, HB.out⟩
    · by_cases hf1 : 65535 < L.ty
      · rw [right_ty (show fitsB L.ty = false from decide_eq_false (by omega))] at hr
        subst hr
        clear hsz
        go_enter Try.func14, Try.ntmps14
        go_wp2_with fail
        go_ret
        exact ⟨rfl, HB.out⟩
      · have hf0' : 0 ≤ L.ty := by omega
        have hf1' : L.ty ≤ 65535 := by omega
        by_cases ht : isTg L.ty = true
        · rw [right_tg ht] at hr
          subst hr
          rw [ht] at HTG
          clear hsz ht
          go_enter Try.func14, Try.ntmps14
          go_wp2_with (go_at_call 21; refine (HTG.out _).mono ?_; rintro e w5 ⟨rfl, rfl⟩)
          go_ret
          exact ⟨rfl, HB.out⟩
        · have ht : isTg L.ty = false := by simpa using ht
          rw [right_ts (by rw [hsz]; omega) (fits_no hf0' hf1') ht] at hr
          rw [ht] at HTG
          have HR := Lib.hid hr
          clear hsz ht hr
          go_enter Try.func14, Try.ntmps14
          go_wp2_with (go_at_call 21; refine (HTG.out _).mono ?_; rintro e w5 ⟨rfl, rfl⟩)
          go_loop [3] (fun i => ∃ k : Nat, k ≤ n ∧ i = .int .i64 (k : Int) ∧ (L.ts.drop k).all tgOk = r) (fun i => n - (intOf i).toNat)
          case atStart => exact ⟨0, by omega, rfl, HR.out⟩
          case round =>
            obtain ⟨k, hk, rfl, hi⟩ := hrel
            have HI := Lib.hid hi
            clear hi
            by_cases hlt : k < n
            · have hlt' : (k : Int) < (n : Int) := by omega
              obtain ⟨b, off, rfl, _⟩ := HT.out.addr (by omega)
              obtain ⟨x, hx⟩ : ∃ x, L.ts[k]? = some x := ⟨_, List.getElem?_eq_getElem (by rw [HT.out.size]; exact hlt)⟩
              obtain ⟨c1, c2⟩ := HT.out.cell hx
              have hd : L.ts.drop k = x :: L.ts.drop (k + 1) := by
                obtain ⟨h1, h2⟩ := List.getElem?_eq_some_iff.1 hx
                rw [← h2]; exact List.drop_eq_getElem_cons h1
              have hal : (tgOk x && (L.ts.drop (k + 1)).all tgOk) = r := by rw [← HI.out, hd, List.all_cons]
              have HX := Lib.hid (fun W => rtag_any x.t W)
              obtain ⟨t, c⟩ := x
              unfold tgOk at hal
              clear hd hx
              by_cases ht : isTg t = true
              · rw [ht] at HX
                simp only [ht, Bool.true_and] at hal
                by_cases g0 : c < 0
                · rw [show fitsB c = false from decide_eq_false (by omega), Bool.false_and] at hal
                  subst hal
                  clear ht
                  go_wp2_with (go_at_call 21; refine (HX.out _).mono ?_; rintro e w5 ⟨rfl, rfl⟩)
                  go_ret
                  exact ⟨rfl, HB.out⟩
                · by_cases g1 : 65535 < c
                  · rw [show fitsB c = false from decide_eq_false (by omega), Bool.false_and] at hal
                    subst hal
                    clear ht
                    go_wp2_with (go_at_call 21; refine (HX.out _).mono ?_; rintro e w5 ⟨rfl, rfl⟩)
                    go_ret
                    exact ⟨rfl, HB.out⟩
                  · rw [show fitsB c = true from decide_eq_true (by omega), Bool.true_and] at hal
                    have HA := Lib.hid hal
                    have g0' : 0 ≤ c := by omega
                    have g1' : c ≤ 65535 := by omega
                    clear ht hal
                    go_wp2_with (go_at_call 21; refine (HX.out _).mono ?_; rintro e w5 ⟨rfl, rfl⟩)
                    go_round
                    case rel => exact ⟨k + 1, by omega, by go_num, HA.out⟩
                    case measure => simp [intOf]; omega
              · have ht : isTg t = false := by simpa using ht
                rw [ht] at HX
                simp only [ht, Bool.false_and] at hal
                subst hal
                clear ht
                go_wp2_with (go_at_call 21; refine (HX.out _).mono ?_; rintro e w5 ⟨rfl, rfl⟩)
                go_ret
                exact ⟨rfl, HB.out⟩
            · have hnil : L.ts.drop k = [] := List.drop_eq_nil_of_le (by rw [HT.out.size]; omega)
              have hr : true = r := by rw [← HI.out, hnil]; rfl
              subst hr
              clear hnil
              go_wp2_with fail
              go_ret
              exact ⟨rfl, HB.out⟩

theorem Rd.laid (w : World) (xs : List UInt8) (n : Nat) (hn : xs.length = n) : Rd (w.alloc (.cells (xs.map v8).toArray 5)) (w.heap.size + 1) (some ⟨w.heap.size, 0, none⟩) n xs := by
  subst hn
  exact (show Row8 (w.alloc (.cells (xs.map v8).toArray 5)) w.heap.size xs from heap_alloc_new w _).rd (by omega)
theorem v8_of (n : Nat) (h : n < 256) : v8 (UInt8.ofNat n) = .int .u8 (n : Int) := by
  unfold v8
  rw [UInt8.toNat_ofNat', Nat.mod_eq_of_lt h]
theorem be2_cells (n : Nat) (h : n < 65536) : (be2 (n : Int)).map v8 = [.int .u8 ((n : Int) / 256), .int .u8 ((n : Int) % 256)] := by
  unfold be2
  simp only [List.map_cons, List.map_nil, Int.toNat_natCast]
  rw [v8_of _ (by omega), v8_of _ (by omega)]
  rfl
theorem tgB_cells (t c : Nat) (ht : t < 65536) (hc : c < 65536) : ((tgB ⟨(t : Int), (c : Int)⟩).map v8).toArray = #[.int .u8 ((t : Int) / 256), .int .u8 ((t : Int) % 256), .int .u8 ((c : Int) / 256), .int .u8 ((c : Int) % 256)] := by
  unfold tgB
  rw [List.map_append, be2_cells t ht, be2_cells c hc]
  rfl

set_option maxRecDepth 100000 in
set_option maxHeartbeats 2000000 in
theorem rput_any7 (L : Lk) (h6 : L.Six) {A : Option Addr} {n : Nat} (cap : Nat) {w : World} (hT : TagsAt w w.heap.size A n L.ts) (hr : rightB L = true) :
    Calls Try.prog 16 #[lkC L (.slice A n cap)] w fun e w' => ∃ v, e = .returned v ∧ Own8 w' w.heap.size v (lkB L) ∧ Below w.heap.size w w' := by
  obtain ⟨q1, q2, q3, q4⟩ := right_parts hr
  have hsz := hT.size
  have hn2 : n ≤ 2 := by omega
  have hb1 := Blk.new w 27 (lkL L (.slice A n cap))
  have hB1 := (Below.refl w.heap.size w).alloc (Nat.le_refl _) (.cells (lkL L (.slice A n cap)).toArray 27)
  unfold lkC
  have hd6 := h6.d
  have hs6 := h6.s
  obtain ⟨w1, hw1⟩ : ∃ w1, w.alloc (.cells (lkL L (.slice A n cap)).toArray 27) = w1 := ⟨_, rfl⟩
  rw [hw1] at hb1 hB1
  have hz1 : w1.heap.size = w.heap.size + 1 := by rw [← hw1]; simp
  have HW1 := Lib.hid hw1
  have HB1 := Lib.hid hb1
  have HBL := Lib.hid hB1
  have HSZ := Lib.hid hsz
  have HD6 := Lib.hid hd6
  have HS6 := Lib.hid hs6
  have HZ1 := Lib.hid hz1
  clear hb1 hB1 hw1 hsz hd6 hs6 hz1
  go_enter Try.func16, Try.ntmps16
  go_wp2_with fail
  rw [HW1.out]
  go_loopw [3, 4] (fun v i wr => ∃ k : Nat, k ≤ 6 ∧ i = .int .i64 (k : Int) ∧ Own8 wr w1.heap.size v (L.d.take k) ∧ Below w1.heap.size w1 wr) (fun _ i _ => 6 - (intOf i).toNat)
  case atStart => exact ⟨0, by omega, rfl, by rw [List.take_zero]; exact Own8.nil_ _ _, Below.refl _ _⟩
  case round =>
    obtain ⟨k, hk, rfl, hown, hbel⟩ := hrel
    have hsz := hbel.size
    have hB := HB1.out.below HB1.out.lt hbel
    by_cases hlt : k < 6
    · have hlt' : (k : Int) < 6 := by omega
      obtain ⟨x, ex⟩ : ∃ x, L.d[k]'(by rw [HD6.out]; omega) = x := ⟨_, rfl⟩
      have hx0 : L.d[k]? = some x := by rw [← ex]; exact List.getElem?_eq_getElem _
      have hx : wr.cell? ⟨w.heap.size, k, none⟩ = some (.int .u8 (x.toNat : Int)) := by
        have := hB.dst k (v8 x) (by rw [List.getElem?_map, hx0]; rfl)
        rw [Nat.zero_add] at this
        exact this
      have ht : L.d.take k ++ [x] = L.d.take (k + 1) := by rw [← ex]; exact List.take_append_getElem (by rw [HD6.out]; omega)
      have HK := Lib.hid ht
      clear ht ex hx0 hB
      go_wp2_with (at_builtin; refine wpList_append8 rfl _ _ rfl w1.heap.size _ (L.d.take k) (by rfl) (hown.alloc _) _ _ _ _ [x] (by rfl) (Rd.one wr x) (by rw [List.length_take]; omega) (by simp; omega) ?_; intro v' w3 ho' hg' _)
      have hb3 := (hbel.alloc hsz (.cells #[.int .u8 (x.toNat : Int)] 5)).grown hg' (by simp; omega) hown.lt
      rw [HK.out] at ho'
      go_wp2_with fail
      go_roundw
      case rel => exact ⟨k + 1, by omega, by go_num, ho', hb3⟩
      case measure => simp [intOf]; omega
    · have hkN : k = 6 := by omega
      have hlt' : ¬ (k : Int) < 6 := by omega
      rw [hkN, List.take_of_length_le (by rw [HD6.out]; omega)] at hown
      clear hlt hkN hk hB
      go_wp2_with fail
      go_loopw [3, 5] (fun v i wr => ∃ j : Nat, j ≤ 6 ∧ i = .int .i64 (j : Int) ∧ Own8 wr w1.heap.size v (L.d ++ L.s.take j) ∧ Below w1.heap.size w1 wr) (fun _ i _ => 6 - (intOf i).toNat)
      case atStart => exact ⟨0, by omega, rfl, by rw [List.take_zero, List.append_nil]; exact hown, hbel⟩
      case round =>
        clear hown hbel hsz
        obtain ⟨j, hj, rfl, hown, hbel⟩ := hrel
        have hsz := hbel.size
        have hB := HB1.out.below HB1.out.lt hbel
        by_cases hlt2 : j < 6
        · have hlt2' : (j : Int) < 6 := by omega
          obtain ⟨x, ex⟩ : ∃ x, L.s[j]'(by rw [HS6.out]; omega) = x := ⟨_, rfl⟩
          have hx0 : L.s[j]? = some x := by rw [← ex]; exact List.getElem?_eq_getElem _
          have hx : wr.cell? ⟨w.heap.size, 6 + j, none⟩ = some (.int .u8 (x.toNat : Int)) := hB.src h6 j (v8 x) (by rw [List.getElem?_map, hx0]; rfl)
          have ht : L.d ++ L.s.take j ++ [x] = L.d ++ L.s.take (j + 1) := by rw [← ex, List.append_assoc, List.take_append_getElem]
          have HK := Lib.hid ht
          clear ht ex hx0 hB
          go_wp2_with (at_builtin; refine wpList_append8 rfl _ _ rfl w1.heap.size _ (L.d ++ L.s.take j) (by rfl) (hown.alloc _) _ _ _ _ [x] (by rfl) (Rd.one wr x) (by rw [List.length_append, List.length_take, HD6.out]; omega) (by simp; omega) ?_; intro v' w3 ho' hg' _)
          have hb3 := (hbel.alloc hsz (.cells #[.int .u8 (x.toNat : Int)] 5)).grown hg' (by simp; omega) hown.lt
          rw [HK.out] at ho'
          go_wp2_with fail
          go_roundw
          case rel => exact ⟨j + 1, by omega, by go_num, ho', hb3⟩
          case measure => simp [intOf]; omega
        · have hjN : j = 6 := by omega
          have hlt2' : ¬ (j : Int) < 6 := by omega
          rw [hjN, List.take_of_length_le (by rw [HS6.out]; omega)] at hown
          clear hlt2 hjN hj hB
          go_wp2_with fail
          go_loopw [3, 6] (fun v i wr => ∃ k : Nat, k ≤ n ∧ i = .int .i64 (k : Int) ∧ Own8 wr w1.heap.size v (L.d ++ (L.s ++ tsB (L.ts.take k))) ∧ Below w1.heap.size w1 wr) (fun _ i _ => n - (intOf i).toNat)
          case atStart => exact ⟨0, by omega, rfl, by rw [List.take_zero]; show Own8 _ _ _ (L.d ++ (L.s ++ [])); rw [List.append_nil]; exact hown, hbel⟩
          case round =>
            clear hown hbel hsz
            obtain ⟨k, hk, rfl, hown, hbel⟩ := hrel
            have hsz := hbel.size
            have hB := HB1.out.below HB1.out.lt hbel
            have c12 := hB.cell (lkL_tags h6 _)
            have hpl : (L.d ++ (L.s ++ tsB (L.ts.take k))).length ≤ 100 := by
              rw [List.length_append, List.length_append, HD6.out, HS6.out, tsB_len, List.length_take, HSZ.out]; omega
            by_cases hlt3 : k < n
            · have hlt3' : (k : Int) < (n : Int) := by omega
              have hT5 := (hT.below HBL.out).below (hbel.mono (by rw [HZ1.out]; omega))
              obtain ⟨b, off, rfl, _⟩ := hT5.addr (by omega)
              obtain ⟨x, hx⟩ : ∃ x, L.ts[k]? = some x := ⟨_, List.getElem?_eq_getElem (by rw [HSZ.out]; exact hlt3)⟩
              obtain ⟨c1, c2⟩ := hT5.cell hx
              have htk : tsB (L.ts.take (k + 1)) = tsB (L.ts.take k) ++ tgB x := by
                obtain ⟨h1, h2⟩ := List.getElem?_eq_some_iff.1 hx
                rw [← List.take_append_getElem h1, h2, tsB_snoc]
              have hok : tgOk x = true := List.all_eq_true.1 q2 x (List.mem_of_getElem? hx)
              have hok' : isTg x.t = true ∧ fitsB x.c = true := by simpa [tgOk] using hok
              obtain ⟨t0, t1⟩ := fits_yes (isTg_fits hok'.1)
              obtain ⟨u0, u1⟩ := fits_yes hok'.2
              obtain ⟨xt, xc⟩ := x
              obtain ⟨t, rfl⟩ := Int.eq_ofNat_of_zero_le t0
              obtain ⟨u, rfl⟩ := Int.eq_ofNat_of_zero_le u0
              have ht65 : t < 65536 := by have t1' : ((t : Nat) : Int) < 65536 := t1; omega
              have hu65 : u < 65536 := by have u1' : ((u : Nat) : Int) < 65536 := u1; omega
              obtain ⟨pre, hpre⟩ : ∃ pre, L.d ++ (L.s ++ tsB (L.ts.take k)) = pre := ⟨_, rfl⟩
              have hpre2 : L.d ++ (L.s ++ tsB (L.ts.take (k + 1))) = pre ++ tgB ⟨(t : Int), (u : Int)⟩ := by
                rw [htk, ← hpre]; simp
              rw [hpre] at hown hpl
              have hrd := Rd.laid (wr.alloc (.cells #[.int .i64 (t : Int), .int .i64 (u : Int)] 45)) (tgB ⟨(t : Int), (u : Int)⟩) 4 rfl
              rw [tgB_cells t u ht65 hu65] at hrd
              simp only [World.size_alloc] at hrd
              have HPRE2 := Lib.hid hpre2
              have HRD := Lib.hid hrd
              clear hpre hpre2 htk hok hok' t0 t1 u0 u1 hx hT5 hrd
              go_wp2_with (at_builtin; refine wpList_append8 rfl _ _ rfl w1.heap.size _ pre (by rfl) ((hown.alloc _).alloc _) _ _ _ _ (tgB ⟨(t : Int), (u : Int)⟩) (by rfl) HRD.out (by omega) (by simp; omega) ?_; intro v' w3 ho' hg' _)
              have hb3 := ((hbel.alloc hsz (.cells #[.int .i64 (t : Int), .int .i64 (u : Int)] 45)).alloc (by simp; omega) (.cells #[.int .u8 ((t : Int) / 256), .int .u8 ((t : Int) % 256), .int .u8 ((u : Int) / 256), .int .u8 ((u : Int) % 256)] 5)).grown hg' (by simp; omega) hown.lt
              rw [← HPRE2.out] at ho'
              go_wp2_with fail
              go_roundw
              case rel => exact ⟨k + 1, by omega, by go_num, ho', hb3⟩
              case measure => simp [intOf]; omega
            · obtain rfl : k = n := by omega
              rw [List.take_of_length_le (by rw [HSZ.out]; exact Nat.le_refl _)] at hown hpl
              have c13 := hB.cell (lkL_ty h6 _)
              obtain ⟨t0, t1⟩ := fits_yes q3
              obtain ⟨t, ht⟩ := Int.eq_ofNat_of_zero_le t0
              have ht65 : t < 65536 := by omega
              obtain ⟨pre, hpre⟩ : ∃ pre, L.d ++ (L.s ++ tsB L.ts) = pre := ⟨_, rfl⟩
              rw [hpre] at hown hpl
              have hfin : lkB L = pre ++ be2 (t : Int) := by rw [← hpre, ← ht]; unfold lkB; simp
              have hrd := Rd.laid wr (be2 (t : Int)) 2 rfl
              rw [be2_cells t ht65] at hrd
              rw [ht] at c13
              have HFIN := Lib.hid hfin
              have HRD := Lib.hid hrd
              clear hfin hpre ht t0 t1 hlt3 hB hrd
              go_wp2_with (at_builtin; refine wpList_append8 rfl _ _ rfl w1.heap.size _ pre (by rfl) (hown.alloc _) _ _ _ _ (be2 (t : Int)) (by rfl) HRD.out (by omega) (by simp; omega) ?_; intro v' w3 ho' hg' _)
              have hb3 := (hbel.alloc hsz (.cells #[.int .u8 ((t : Int) / 256), .int .u8 ((t : Int) % 256)] 5)).grown hg' (by simp; omega) hown.lt
              rw [← HFIN.out] at ho'
              go_ret
              exact ⟨_, rfl, ho'.base_le HBL.out.size, HBL.out.trans (hb3.mono HBL.out.size)⟩
end Go.Proofs.Ytbahlhafckkapaa
