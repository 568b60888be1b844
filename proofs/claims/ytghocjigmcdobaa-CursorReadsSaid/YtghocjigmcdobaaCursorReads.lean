/-
  PROVED HERE: 'CursorReadsSaid': whatever b and l are, the Go function CursorReads of package wayleavelaw04 returns true, and its arguments read behind the call as they read before. No condition.
-/
import Derived.Test.YtghocjigmcdobaaCOpen
import Derived.Test.YtghocjigmcdobaaCAll
import Derived.Deep.DeepCutAuto
import Derived.Deep.LoopGhost
namespace Go.Proofs.Ytghocjigmcdobaa
open Go.RowKit Go.Lib Go.ChangeShapes Go.WideShapes Go.ChangeAt

/-- What is loaded while the document's Ask is called. -/
def SA (M b o : Nat) (A : Option Addr) (len cap a f e : Nat) (n : Int) (g : Bool) (w' : World) : Prop :=
  w'.cell? ⟨M, 0, none⟩ = some (.slice A len cap) ∧ w'.cell? ⟨M, 1, none⟩ = some (.int .i64 (a : Int)) ∧ w'.cell? ⟨M, 2, none⟩ = some (.int .i64 (f : Int)) ∧ w'.cell? ⟨M, 3, none⟩ = some (.int .i64 (e : Int)) ∧ w'.cell? ⟨b, o + 1, none⟩ = some (.int .i64 n) ∧ w'.cell? ⟨b, o + 2, none⟩ = some (.bool g)
theorem SA.below {M b o : Nat} {A : Option Addr} {len cap a f e : Nat} {n : Int} {g : Bool} {w w' : World} {B : Nat} (h : SA M b o A len cap a f e n g w) (hb : Below B w w') (hM : M < B) (hbb : b < B) : SA M b o A len cap a f e n g w' := by
  obtain ⟨h0, h1, h2, h3, h4, h5⟩ := h
  exact ⟨(hb.cell hM).trans h0, (hb.cell hM).trans h1, (hb.cell hM).trans h2, (hb.cell hM).trans h3, (hb.cell hbb).trans h4, (hb.cell hbb).trans h5⟩
theorem left_at {w : World} {P : Nat} {A : Option Addr} {cap a f e : Nat} {bs : List UInt8} (h : Rdr w P A cap ⟨bs, a, f, e⟩) :
    Calls Try.prog 26 #[.pointer (some ⟨P, 0, none⟩)] w fun x w' => x = .returned (.int .i64 ((bs.length : Int) - (a : Int))) ∧ Below w.heap.size w w' :=
  (left_any h).mono fun x w' ⟨h1, n, h2⟩ => by
    have hle : a ≤ bs.length := h.le
    refine ⟨?_, by rw [h2]; exact below_drewN (Below.refl _ _) n⟩
    rw [h1]
    show Ending.returned (.int .i64 ((bs.length - a : Nat) : Int)) = _
    rw [Int.ofNat_sub hle]

theorem Own8.rdd {w : World} {base n c : Nat} {A : Option Addr} {xs : List UInt8} (h : Own8 w base (.slice A n c) xs) : Rd w w.heap.size A n xs := by
  obtain ⟨A', m, c', e, _, _, _, hr⟩ := h.sl
  cases e
  exact hr
/-- What turns a block above a reader leaves the reader. -/
theorem Rdr.over_ {w w' : World} {P cap g : Nat} {A : Option Addr} {s : RS} (h : Rdr w P A cap s) (hg : w.grownBy w' (some g)) (hP : P < g) : Rdr w' P A cap s :=
  ⟨(hg.block P h.lt (fun e => by cases e; omega)).trans h.blk, h.rd.keep fun p hp => World.cell?_of_block (hg.block p.block (Nat.lt_trans hp h.lt) (fun e => by cases e; omega)), h.le, h.few, h.room, h.most⟩

set_option maxRecDepth 100000 in
set_option maxHeartbeats 8000000 in
theorem cursorReads_walk (A : Option Addr) (len cap : Nat) (bs : List UInt8) (hcap : len ≤ cap) (hcm : cap ≤ maxLen) (A' : Option Addr) (len' cap' : Nat) (xs : List As) (_hcap' : len' ≤ cap') (_hcm' : cap' ≤ maxLen) (hxs : ∀ x ∈ xs, (-9223372036854775808 ≤ x.n ∧ x.n ≤ 9223372036854775807) ∧ x.m < 18446744073709551616) (w : World)
    (hI : Rd w w.heap.size A len bs) (hJ : AsksAt w w.heap.size A' len' xs) :
    Calls Try.prog 7 #[.slice A len cap, .slice A' len' cap'] w fun e W' => e = .returned (.bool true) ∧ Below w.heap.size w W' := by
  by_cases h1 : 500 < len
  · have h1' : (500 : Int) < (len : Int) := by omega
    go_enter Try.func7, Try.ntmps7
    go_wp2_with fail
    refine (awake_any _).mono ?_
    rintro e w1 ⟨rfl, hb1⟩
    go_wp2_with fail
    refine (awake_any _).mono ?_
    rintro e w2 ⟨rfl, hb2⟩
    go_wp2_with fail
    go_ret
    exact ⟨rfl, hb1.trans (hb2.mono hb1.size)⟩
  · have h1' : decide ((500 : Int) < (len : Int)) = false := decide_eq_false (by omega)
    by_cases h2 : 60 < len'
    · have h2' : (60 : Int) < (len' : Int) := by omega
      go_enter Try.func7, Try.ntmps7
      go_wp2_with fail
      refine (awake_any _).mono ?_
      rintro e w1 ⟨rfl, hb1⟩
      go_wp2_with fail
      refine (awake_any _).mono ?_
      rintro e w2 ⟨rfl, hb2⟩
      go_wp2_with fail
      go_ret
      exact ⟨rfl, hb1.trans (hb2.mono hb1.size)⟩
    · have h2' : decide ((60 : Int) < (len' : Int)) = false := decide_eq_false (by omega)
      obtain rfl : bs.length = len := hI.len
      have hl5 : bs.length ≤ 500 := by omega
      have hl60 : len' ≤ 60 := by omega
      have HX := Lib.hid hxs
      have HJs := Lib.hid hJ.1
      clear hxs h1 h2
      go_enter Try.func7, Try.ntmps7
      go_wp2_with fail
      refine (awake_any _).mono ?_
      rintro e w1 ⟨rfl, hb1⟩
      have z1 := hb1.size
      go_wp2_with fail
      refine (new_any A bs.length cap bs (by omega) _ ((hI.below hb1).more z1)).mono ?_
      rintro e w2 ⟨P, A1, c1, rfl, hR2, hP2, hb2⟩
      have B2 := hb1.trans (hb2.mono z1)
      have z2 := B2.size
      have hPl := hR2.lt
      have hP0 : w.heap.size ≤ P := by omega
      go_wp2_with fail
      have hM3 := Bk.new w2 46 #[.slice A bs.length cap, .int .i64 0, .int .i64 0, .int .i64 0]
      have hR3 := hR2.alloc (.cells #[.slice A bs.length cap, .int .i64 0, .int .i64 0, .int .i64 0] 46)
      have B3 := B2.alloc z2 (.cells #[.slice A bs.length cap, .int .i64 0, .int .i64 0, .int .i64 0] 46)
      generalize w2.alloc (.cells #[.slice A bs.length cap, .int .i64 0, .int .i64 0, .int .i64 0] 46) = w3 at hM3 hR3 B3 ⊢
      generalize w2.heap.size = M at hM3 hPl z2 ⊢
      clear hR2 hb2 hb1 z1 B2 hP2
      go_loopg [7] len' (fun gh i wr => ∃ k a f e : Nat, k + gh = len' ∧ i = .int .i64 (k : Int) ∧ Rdr wr P A1 c1 ⟨bs, a, f, e⟩ ∧ Bk wr M 46 #[.slice A bs.length cap, .int .i64 (a : Int), .int .i64 (f : Int), .int .i64 (e : Int)] ∧ Below w.heap.size w wr)
      case atStart => exact ⟨0, 0, 0, 0, by omega, rfl, hR3, hM3, B3⟩
      case round =>
        clear hR3 hM3 B3
        obtain ⟨k, a, f, e, hk, rfl, hR, hM, hB⟩ := hrel
        by_cases hlt : k < len'
        · have hlt' : (k : Int) < (len' : Int) := by omega
          have hk0 : (0 : Int) ≤ (k : Int) := by omega
          obtain ⟨b, off, rfl, hbl, hc⟩ := hJ.2 (by omega)
          obtain ⟨x, hx⟩ : ∃ x, xs[k]? = some x := ⟨_, List.getElem?_eq_getElem (by rw [HJs.out]; exact hlt)⟩
          obtain ⟨x0, x1, x2, _, _⟩ := hc k x hx
          obtain ⟨⟨hz0, hz1⟩, _⟩ := HX.out x (List.mem_of_getElem? hx)
          obtain ⟨xk, z, g, xm, xb⟩ := x
          simp only at x0 x1 x2 hz0 hz1
          rw [← hB.cell (p := ⟨b, off + k * 5, none⟩) hbl] at x0
          rw [← hB.cell (p := ⟨b, off + k * 5 + 1, none⟩) hbl] at x1
          rw [← hB.cell (p := ⟨b, off + k * 5 + 2, none⟩) hbl] at x2
          clear hc hx
          have hMl := hM.lt
          have hle := hR.le
          change a ≤ bs.length at hle
          obtain ⟨S', hS'⟩ : ∃ S', asS ⟨bs, a, f, e⟩ xk z = S' := ⟨_, rfl⟩
          obtain ⟨N, hN⟩ : ∃ N, asN ⟨bs, a, f, e⟩ xk z g = N := ⟨_, rfl⟩
          obtain ⟨BS, hBS⟩ : ∃ BS, asB ⟨bs, a, f, e⟩ xk z = BS := ⟨_, rfl⟩
          have hxs' : S'.xs = bs := by rw [← hS']; exact asS_xs _ _ _
          have hask : ∀ W, Below w.heap.size w W → Calls Try.prog 24 #[.agg #[.slice A bs.length cap, .int .i64 (a : Int), .int .i64 (f : Int), .int .i64 (e : Int)], .int .i64 (kd xk), .int .i64 z, .bool g] W (fun e w' => ∃ v, e = .returned (.tuple #[.agg #[.slice A bs.length cap, .int .i64 (S'.at_ : Int), .int .i64 (S'.fa : Int), .int .i64 (S'.fe : Int)], .int .u64 (N : Int), v]) ∧ Own8 w' W.heap.size v BS ∧ Below W.heap.size W w') := fun W hW => by
            have h := rask_all (s := ⟨bs, a, f, e⟩) (w := W) (A := A) (cap := cap) ⟨(hI.below hW).more hW.size, hle, by show bs.length ≤ 100000; omega, hcap, hcm⟩ xk z hz0 hz1 g
            rw [hS', hN, hBS] at h
            unfold RGave rvOf at h
            rw [hxs'] at h
            exact h
          have HA := Lib.hid hask
          clear hask
          obtain ⟨ys, a', f', e'⟩ := S'
          change ys = bs at hxs'
          subst hxs'
          simp only at HA
          have HS0 := Lib.hid hS'
          have HN0 := Lib.hid hN
          have HB0 := Lib.hid hBS
          clear hS' hN hBS
          have SA0 : ∀ W, Below w.heap.size wr W → W.cell? ⟨b, off + k * 5 + 1, none⟩ = some (.int .i64 z) ∧ W.cell? ⟨b, off + k * 5 + 2, none⟩ = some (.bool g) := fun W hW => ⟨(hW.cell hbl).trans x1, (hW.cell hbl).trans x2⟩
          go_upto_if 45 with (fail)
          go_cut [8, 9, 10] (fun s8 s9 s10 w4 => ∃ (A10 : Option Addr) (m10 c10 : Nat), s8 = .int .i64 (kd xk) ∧ s9 = .int .u64 (N : Int) ∧ s10 = .slice A10 m10 c10 ∧ Own8 w4 (M + 1) (.slice A10 m10 c10) BS ∧ Rdr w4 P A1 c1 ⟨ys, a', f', e'⟩ ∧ Bk w4 M 46 #[.slice A ys.length cap, .int .i64 (a : Int), .int .i64 (f : Int), .int .i64 (e : Int)] ∧ Below w.heap.size wr w4)
          case first =>
            by_cases k1 : xk = 1
            · subst k1
              obtain rfl : BS = [] := HB0.out.symm
              have hs : RS.num ⟨ys, a, f, e⟩ z = ⟨ys, a', f', e'⟩ := HS0.out
              have hn : RS.numN ⟨ys, a, f, e⟩ z g = N := HN0.out
              have HN := Lib.hid (fun W (h : Below wr.heap.size wr W) => (show Calls Try.prog 19 #[.pointer (some ⟨P, 0, none⟩), .int .i64 z, .bool g] W (GaveN W P A1 c1 ⟨ys, a', f', e'⟩ N) from hs ▸ hn ▸ num_any (hR.below h hR.lt) z g))
              clear hs hn
              go_wp2_with fail
              go_region_held3 (fun W => W.cell? ⟨b, off + k * 5 + 1, none⟩ = some (.int .i64 z) ∧ W.cell? ⟨b, off + k * 5 + 2, none⟩ = some (.bool g))
                (first | exact SA0 _ (Below.refl _ _).drew | exact SA0 _ hX | fail)
                (first | (go_at_call 19; refine (HN.out wr.drew (Below.refl _ _).drew).mono ?_; rintro x w4 ⟨rfl, hR4, hg4⟩; have hX : Below w.heap.size wr w4 := gb_to_below (B := w.heap.size) (gb_trans (gb_drew (World.grownBy.refl wr (some P))) hg4) hP0 hB.size))
              have hg4 := gb_trans (gb_drew (World.grownBy.refl wr (some P))) hg4
              have ho10 : Own8 w4 (M + 1) (.slice none 0 0) [] := Own8.nil_ _ _
              have hM4 := hM.grown hg4 (by omega)
              go_wp2_with fail
              go_meet
              exact ⟨_, _, _, rfl, rfl, rfl, ho10, hR4, hM4, hX⟩
            · by_cases k2 : xk = 2
              · subst k2
                obtain rfl : BS = [] := HB0.out.symm
                have hs : RS.next (RS.look ⟨ys, a, f, e⟩) (RS.lookK ⟨ys, a, f, e⟩) = ⟨ys, a', f', e'⟩ := HS0.out
                have hn : RS.lookN ⟨ys, a, f, e⟩ = N := HN0.out
                have HN := Lib.hid (show Calls Try.prog 20 #[.pointer (some ⟨P, 0, none⟩)] wr (GaveN wr P A1 c1 ⟨ys, a', f', e'⟩ N) from hs ▸ hn ▸ var_any hR)
                clear hs hn
                go_wp2_with fail
                refine HN.out.mono ?_
                rintro x w4 ⟨rfl, hR4, hg4⟩
                have hX : Below w.heap.size wr w4 := gb_to_below (B := w.heap.size) hg4 hP0 hB.size
                have ho10 : Own8 w4 (M + 1) (.slice none 0 0) [] := Own8.nil_ _ _
                have hM4 := hM.grown hg4 (by omega)
                go_wp2_with fail
                go_meet
                exact ⟨_, _, _, rfl, rfl, rfl, ho10, hR4, hM4, hX⟩
              · by_cases k3 : xk = 3
                · subst k3
                  obtain rfl : N = 0 := HN0.out.symm
                  have hs : RS.take ⟨ys, a, f, e⟩ z = ⟨ys, a', f', e'⟩ := HS0.out
                  have hn : RS.takeB ⟨ys, a, f, e⟩ z = BS := HB0.out
                  have HN := Lib.hid (show Calls Try.prog 21 #[.pointer (some ⟨P, 0, none⟩), .int .i64 z] wr (GaveB wr P A1 c1 ⟨ys, a', f', e'⟩ BS) from hs ▸ hn ▸ take_any hR z)
                  clear hs hn
                  go_wp2_with fail
                  refine HN.out.mono ?_
                  rintro x w4 ⟨v10, rfl, hv10, hR4, hg4⟩
                  obtain ⟨A10, m10, c10, rfl, hm10, _, _, _⟩ := hv10.sl
                  clear hm10
                  have hX : Below w.heap.size wr w4 := gb_to_below (B := w.heap.size) hg4 hP0 hB.size
                  have ho10 : Own8 w4 (M + 1) (.slice A10 m10 c10) BS := hv10.base_le (by omega)
                  have hM4 := hM.grown hg4 (by omega)
                  go_wp2_with fail
                  go_meet
                  exact ⟨_, _, _, rfl, rfl, rfl, ho10, hR4, hM4, hX⟩
                · by_cases k4 : xk = 4
                  · subst k4
                    obtain rfl : N = 0 := HN0.out.symm
                    have hs : RS.text ⟨ys, a, f, e⟩ z = ⟨ys, a', f', e'⟩ := HS0.out
                    have hn : RS.textB ⟨ys, a, f, e⟩ z = BS := HB0.out
                    have HN := Lib.hid (show Calls Try.prog 22 #[.pointer (some ⟨P, 0, none⟩), .int .i64 z] wr (GaveB wr P A1 c1 ⟨ys, a', f', e'⟩ BS) from hs ▸ hn ▸ text_any hR z hz0 hz1)
                    clear hs hn
                    go_wp2_with fail
                    refine HN.out.mono ?_
                    rintro x w4 ⟨v10, rfl, hv10, hR4, hg4⟩
                    obtain ⟨A10, m10, c10, rfl, hm10, _, _, _⟩ := hv10.sl
                    clear hm10
                    have hX : Below w.heap.size wr w4 := gb_to_below (B := w.heap.size) hg4 hP0 hB.size
                    have ho10 : Own8 w4 (M + 1) (.slice A10 m10 c10) BS := hv10.base_le (by omega)
                    have hM4 := hM.grown hg4 (by omega)
                    go_wp2_with fail
                    go_meet
                    exact ⟨_, _, _, rfl, rfl, rfl, ho10, hR4, hM4, hX⟩
                  · obtain rfl : N = 0 := by rw [← HN0.out]; unfold asN; rw [if_neg k1, if_neg k2]
                    obtain rfl : BS = [] := by rw [← HB0.out]; unfold asB; rw [if_neg k3, if_neg k4]
                    have hs : RS.over ⟨ys, a, f, e⟩ = ⟨ys, a', f', e'⟩ := by rw [← HS0.out]; unfold asS; rw [if_neg k1, if_neg k2, if_neg k3, if_neg k4]
                    have HN := Lib.hid (show Calls Try.prog 23 #[.pointer (some ⟨P, 0, none⟩)] wr (fun x w' => x = .returned (.tuple #[]) ∧ Rdr w' P A1 c1 ⟨ys, a', f', e'⟩ ∧ wr.grownBy w' (some P)) from hs ▸ end_any hR)
                    have hkd : kd xk = 5 := if_neg (by omega)
                    have q1 : (xk == 1) = false := beq_eq_false_iff_ne.2 k1
                    have q2 : (xk == 2) = false := beq_eq_false_iff_ne.2 k2
                    have q3 : (xk == 3) = false := beq_eq_false_iff_ne.2 k3
                    have q4 : (xk == 4) = false := beq_eq_false_iff_ne.2 k4
                    clear hs k1 k2 k3 k4
                    go_wp2_with fail
                    refine HN.out.mono ?_
                    rintro x w4 ⟨rfl, hR4, hg4⟩
                    have hX : Below w.heap.size wr w4 := gb_to_below (B := w.heap.size) hg4 hP0 hB.size
                    have ho10 : Own8 w4 (M + 1) (.slice none 0 0) [] := Own8.nil_ _ _
                    have hM4 := hM.grown hg4 (by omega)
                    go_wp2_with fail
                    go_meet
                    exact ⟨_, _, _, by rw [hkd], rfl, rfl, ho10, hR4, hM4, hX⟩
          case rest =>
            obtain ⟨A10, m10, c10, rfl, rfl, rfl, ho10, hR4, hM4, hX⟩ := hcut
            have B4 := hB.trans hX
            have z4 := B4.size
            have x1 := (hX.cell (p := ⟨b, off + k * 5 + 1, none⟩) hbl).trans x1
            have x2 := (hX.cell (p := ⟨b, off + k * 5 + 2, none⟩) hbl).trans x2
            have hMl4 : M < wc.heap.size := hM4.lt
            clear hX HS0 HN0 HB0 SA0 hR hM hB
            have SK : ∀ W, Below wc.heap.size wc W → W.cell? ⟨M, 0, none⟩ = some (.slice A ys.length cap) ∧ W.cell? ⟨M, 1, none⟩ = some (.int .i64 (a : Int)) ∧ W.cell? ⟨M, 2, none⟩ = some (.int .i64 (f : Int)) ∧ W.cell? ⟨M, 3, none⟩ = some (.int .i64 (e : Int)) ∧ W.cell? ⟨b, off + k * 5 + 1, none⟩ = some (.int .i64 z) ∧ W.cell? ⟨b, off + k * 5 + 2, none⟩ = some (.bool g) := fun W h => ⟨(hM4.below h).c 0 _ rfl, (hM4.below h).c 1 _ rfl, (hM4.below h).c 2 _ rfl, (hM4.below h).c 3 _ rfl, by rw [h.cell (p := ⟨b, off + k * 5 + 1, none⟩) (by show b < wc.heap.size; omega)]; exact x1, by rw [h.cell (p := ⟨b, off + k * 5 + 2, none⟩) (by show b < wc.heap.size; omega)]; exact x2⟩
            go_wp2_with fail
            go_region_held3 (fun W => W.cell? ⟨M, 0, none⟩ = some (.slice A ys.length cap) ∧ W.cell? ⟨M, 1, none⟩ = some (.int .i64 (a : Int)) ∧ W.cell? ⟨M, 2, none⟩ = some (.int .i64 (f : Int)) ∧ W.cell? ⟨M, 3, none⟩ = some (.int .i64 (e : Int)) ∧ W.cell? ⟨b, off + k * 5 + 1, none⟩ = some (.int .i64 z) ∧ W.cell? ⟨b, off + k * 5 + 2, none⟩ = some (.bool g))
              (first
                | exact SK _ (Below.refl _ _).drew
                | exact SK _ ((Below.refl _ _).alloc (Nat.le_refl _) _).drew
                | exact SK _ hB9
                | (refine SK _ ?_; repeat (first | exact hB9 | exact Below.refl _ _ | (refine Below.drew ?_) | (refine Below.setCell ?_ (by first | exact Nat.le_refl _ | exact z9) _) | (refine Below.alloc ?_ (by first | exact Nat.le_refl _ | exact z9) _)))
                | fail)
              (first
                | (go_at_call 24; refine (HA.out wc.drew B4.drew).mono ?_; rintro x W9 ⟨v, rfl, hv, hb9⟩; obtain ⟨A9, m9, c9, rfl, hm9, hc9, hd9, hr9⟩ := hv.sl; clear hm9 hc9 hd9 hr9; have hB9 : Below wc.heap.size wc W9 := (Below.refl _ _).drew.trans (hb9.mono (Nat.le_refl _)); have z9 : wc.heap.size ≤ W9.heap.size := hB9.size)
                | (go_at_call 24; refine (HA.out (wc.alloc (.cells #[.slice none 0 0, .int .i64 0, .int .i64 0, .int .i64 0] 46)).drew (B4.alloc z4 _).drew).mono ?_; rintro x W9 ⟨v, rfl, hv, hb9⟩; obtain ⟨A9, m9, c9, rfl, hm9, hc9, hd9, hr9⟩ := hv.sl; clear hm9 hc9 hd9 hr9; have hB9 : Below wc.heap.size wc W9 := ((Below.refl _ _).alloc (Nat.le_refl _) _).drew.trans (hb9.mono (by simp)); have z9 : wc.heap.size ≤ W9.heap.size := hB9.size; have D9 := (Bk.new wc 46 #[.slice none 0 0, .int .i64 0, .int .i64 0, .int .i64 0]).drew.below hb9; have d0 := D9.c 0 _ rfl; have d1 := D9.c 1 _ rfl; have d2 := D9.c 2 _ rfl; have d3 := D9.c 3 _ rfl; have y0 := D9.fz 0; have y1 := D9.fz 1; have y2 := D9.fz 2; have y3 := D9.fz 3))
            · have hD : Bk (W9.alloc (.cells #[.slice A ys.length cap, .int .i64 (a' : Int), .int .i64 (f' : Int), .int .i64 (e' : Int)] 46)) W9.heap.size 46 #[.slice A ys.length cap, .int .i64 (a' : Int), .int .i64 (f' : Int), .int .i64 (e' : Int)] := Bk.new _ _ _
              have hWb : Below wc.heap.size wc (W9.alloc (.cells #[.slice A ys.length cap, .int .i64 (a' : Int), .int .i64 (f' : Int), .int .i64 (e' : Int)] 46)) := hB9.alloc z9 _
              have hvW : Own8 (W9.alloc (.cells #[.slice A ys.length cap, .int .i64 (a' : Int), .int .i64 (f' : Int), .int .i64 (e' : Int)] 46)) wc.heap.size (.slice A9 m9 c9) BS := (hv.base_le (by simp)).alloc _
              clear hv hb9 hB9 SK
              generalize (W9.alloc (.cells #[.slice A ys.length cap, .int .i64 (a' : Int), .int .i64 (f' : Int), .int .i64 (e' : Int)] 46)) = W at hD hWb hvW ⊢
              generalize W9.heap.size = D at hD ⊢
              have hM5 := hM4.below hWb
              have hR5 := hR4.below hWb hR4.lt
              have ho5 := ho10.below hWb
              have hWs : wc.heap.size ≤ W.heap.size := hWb.size
              have BW : Below w.heap.size w W := B4.trans (hWb.mono z4)
              have d0 := hD.c 0 _ rfl
              have d1 := hD.c 1 _ rfl
              have d2 := hD.c 2 _ rfl
              have d3 := hD.c 3 _ rfl
              have g0 := hM5.c 0 _ rfl
              have g1 := hM5.c 1 _ rfl
              have g2 := hM5.c 2 _ rfl
              have g3 := hM5.c 3 _ rfl
              have y0 := hM5.fz 0
              have y1 := hM5.fz 1
              have y2 := hM5.fz 2
              have y3 := hM5.fz 3
              have hM6 : Bk ((((W.setCell ⟨M, 0, none⟩ (.slice A ys.length cap)).setCell ⟨M, 1, none⟩ (.int .i64 (a' : Int))).setCell ⟨M, 2, none⟩ (.int .i64 (f' : Int))).setCell ⟨M, 3, none⟩ (.int .i64 (e' : Int))) M 46 #[.slice A ys.length cap, .int .i64 (a' : Int), .int .i64 (f' : Int), .int .i64 (e' : Int)] := (((hM5.set 0 (.slice A ys.length cap)).set 1 (.int .i64 (a' : Int))).set 2 (.int .i64 (f' : Int))).set 3 (.int .i64 (e' : Int))
              have hgM : W.grownBy ((((W.setCell ⟨M, 0, none⟩ (.slice A ys.length cap)).setCell ⟨M, 1, none⟩ (.int .i64 (a' : Int))).setCell ⟨M, 2, none⟩ (.int .i64 (f' : Int))).setCell ⟨M, 3, none⟩ (.int .i64 (e' : Int))) (some M) := gb_set (gb_set (gb_set (gb_set (World.grownBy.refl W (some M)) 0 (.slice A ys.length cap)) 1 (.int .i64 (a' : Int))) 2 (.int .i64 (f' : Int))) 3 (.int .i64 (e' : Int))
              have hR6 := hR5.over_ hgM hPl
              have ho6 := ho5.low hgM (Nat.lt_succ_self _)
              have hv6 := (hvW.base_le (base' := M + 1) (by omega)).low hgM (Nat.lt_succ_self _)
              have B6 : Below w.heap.size w ((((W.setCell ⟨M, 0, none⟩ (.slice A ys.length cap)).setCell ⟨M, 1, none⟩ (.int .i64 (a' : Int))).setCell ⟨M, 2, none⟩ (.int .i64 (f' : Int))).setCell ⟨M, 3, none⟩ (.int .i64 (e' : Int))) := (((BW.setCell (by show w.heap.size ≤ M; omega) _).setCell (by show w.heap.size ≤ M; omega) _).setCell (by show w.heap.size ≤ M; omega) _).setCell (by show w.heap.size ≤ M; omega) _
              clear hM5 hR5 ho5 hWb BW hvW hgM hD
              go_wp2_with fail
              clear d0 d1 d2 d3 g0 g1 g2 g3 y0 y1 y2 y3
              generalize ((((W.setCell ⟨M, 0, none⟩ (.slice A ys.length cap)).setCell ⟨M, 1, none⟩ (.int .i64 (a' : Int))).setCell ⟨M, 2, none⟩ (.int .i64 (f' : Int))).setCell ⟨M, 3, none⟩ (.int .i64 (e' : Int))) = W6 at hM6 hR6 ho6 hv6 B6 ⊢
              have HSm := Lib.hid (fun W' (h : Below W6.heap.size W6 W') => (same_any W' c10 c9 (ho6.rdd.below h) (hv6.rdd.below h)).mono fun x W'' ⟨h1, h2⟩ => (⟨h1, h2 ▸ h⟩ : x = Ending.returned (Value.bool true) ∧ Below W6.heap.size W6 W''))
              have HAt := Lib.hid (fun W' (h : Below W6.heap.size W6 W') => (at_any (hR6.below h hR6.lt)).mono fun x W'' ⟨h1, h2⟩ => (⟨h1, h2 ▸ h⟩ : x = Ending.returned (Value.int .i64 (a' : Int)) ∧ Below W6.heap.size W6 W''))
              have HLf := Lib.hid (fun W' (h : Below W6.heap.size W6 W') => (left_at (hR6.below h hR6.lt)).mono fun x W'' ⟨h1, h2⟩ => (⟨h1, h.trans (h2.mono h.size)⟩ : x = Ending.returned (Value.int .i64 ((ys.length : Int) - (a' : Int))) ∧ Below W6.heap.size W6 W''))
              have HFt := Lib.hid (fun W' (h : Below W6.heap.size W6 W') => (fault_any (hR6.below h hR6.lt)).mono fun x W'' ⟨h1, h2⟩ => (⟨h1, h.trans (h2.mono h.size)⟩ : x = Ending.returned (Value.agg #[.int .i64 (f' : Int), .int .i64 (e' : Int)]) ∧ Below W6.heap.size W6 W''))
              have SM : ∀ W', Below W6.heap.size W6 W' → W'.cell? ⟨M, 1, none⟩ = some (.int .i64 (a' : Int)) ∧ W'.cell? ⟨M, 2, none⟩ = some (.int .i64 (f' : Int)) ∧ W'.cell? ⟨M, 3, none⟩ = some (.int .i64 (e' : Int)) := fun W' h => ⟨(hM6.below h).c 1 _ rfl, (hM6.below h).c 2 _ rfl, (hM6.below h).c 3 _ rfl⟩
              have hle6 := hR6.le
              change a' ≤ ys.length at hle6
              have hwr : IntKind.i64.wrap ((ys.length : Int) - (a' : Int)) = (ys.length : Int) - (a' : Int) := by rw [IntKind.wrap_i64]; omega
              go_region_held3 (fun W => W.cell? ⟨M, 1, none⟩ = some (.int .i64 (a' : Int)) ∧ W.cell? ⟨M, 2, none⟩ = some (.int .i64 (f' : Int)) ∧ W.cell? ⟨M, 3, none⟩ = some (.int .i64 (e' : Int)))
                (first | exact SM _ (Below.refl _ _).drew | exact SM _ hq1 | exact SM _ hq2 | exact SM _ hq3 | exact SM _ hq4 | fail)
                (first
                  | (go_at_call 17; refine (HSm.out _ ?_).mono ?_; (first | exact (Below.refl _ _).drew); rintro x Q1 ⟨rfl, hq1⟩)
                  | (go_at_call 25; refine (HAt.out _ ?_).mono ?_; (first | exact hq1); rintro x Q2 ⟨rfl, hq2⟩)
                  | (go_at_call 26; refine (HLf.out _ ?_).mono ?_; (first | exact hq2); rintro x Q3 ⟨rfl, hq3⟩)
                  | (go_at_call 27; refine (HFt.out _ ?_).mono ?_; (first | exact hq3); rintro x Q4 ⟨rfl, hq4⟩))
              go_wp2_with fail
              go_roundg (gk - 1)
              case measure => omega
              case rel => exact ⟨k + 1, a', f', e', by omega, by go_num, hR6.below hq4 hR6.lt, hM6.below hq4, B6.trans (hq4.mono B6.size)⟩
            · have hD : Bk ((((W9.setCell ⟨wc.heap.size, 0, none⟩ (.slice A ys.length cap)).setCell ⟨wc.heap.size, 1, none⟩ (.int .i64 (a' : Int))).setCell ⟨wc.heap.size, 2, none⟩ (.int .i64 (f' : Int))).setCell ⟨wc.heap.size, 3, none⟩ (.int .i64 (e' : Int))) wc.heap.size 46 #[.slice A ys.length cap, .int .i64 (a' : Int), .int .i64 (f' : Int), .int .i64 (e' : Int)] := (((D9.set 0 (.slice A ys.length cap)).set 1 (.int .i64 (a' : Int))).set 2 (.int .i64 (f' : Int))).set 3 (.int .i64 (e' : Int))
              have hWb : Below wc.heap.size wc ((((W9.setCell ⟨wc.heap.size, 0, none⟩ (.slice A ys.length cap)).setCell ⟨wc.heap.size, 1, none⟩ (.int .i64 (a' : Int))).setCell ⟨wc.heap.size, 2, none⟩ (.int .i64 (f' : Int))).setCell ⟨wc.heap.size, 3, none⟩ (.int .i64 (e' : Int))) := (((hB9.setCell (Nat.le_refl _) _).setCell (Nat.le_refl _) _).setCell (Nat.le_refl _) _).setCell (Nat.le_refl _) _
              have hvW : Own8 ((((W9.setCell ⟨wc.heap.size, 0, none⟩ (.slice A ys.length cap)).setCell ⟨wc.heap.size, 1, none⟩ (.int .i64 (a' : Int))).setCell ⟨wc.heap.size, 2, none⟩ (.int .i64 (f' : Int))).setCell ⟨wc.heap.size, 3, none⟩ (.int .i64 (e' : Int))) wc.heap.size (.slice A9 m9 c9) BS := (hv.low (b := wc.heap.size) (gb_set (gb_set (gb_set (gb_set (World.grownBy.refl W9 (some wc.heap.size)) 0 (.slice A ys.length cap)) 1 (.int .i64 (a' : Int))) 2 (.int .i64 (f' : Int))) 3 (.int .i64 (e' : Int))) (by simp)).base_le (by simp)
              clear hv hb9 hB9 D9 d0 d1 d2 d3 y0 y1 y2 y3 SK
              generalize ((((W9.setCell ⟨wc.heap.size, 0, none⟩ (.slice A ys.length cap)).setCell ⟨wc.heap.size, 1, none⟩ (.int .i64 (a' : Int))).setCell ⟨wc.heap.size, 2, none⟩ (.int .i64 (f' : Int))).setCell ⟨wc.heap.size, 3, none⟩ (.int .i64 (e' : Int))) = W at hD hWb hvW ⊢
              have hM5 := hM4.below hWb
              have hR5 := hR4.below hWb hR4.lt
              have ho5 := ho10.below hWb
              have hWs : wc.heap.size ≤ W.heap.size := hWb.size
              have BW : Below w.heap.size w W := B4.trans (hWb.mono z4)
              have d0 := hD.c 0 _ rfl
              have d1 := hD.c 1 _ rfl
              have d2 := hD.c 2 _ rfl
              have d3 := hD.c 3 _ rfl
              have g0 := hM5.c 0 _ rfl
              have g1 := hM5.c 1 _ rfl
              have g2 := hM5.c 2 _ rfl
              have g3 := hM5.c 3 _ rfl
              have y0 := hM5.fz 0
              have y1 := hM5.fz 1
              have y2 := hM5.fz 2
              have y3 := hM5.fz 3
              have hM6 : Bk ((((W.setCell ⟨M, 0, none⟩ (.slice A ys.length cap)).setCell ⟨M, 1, none⟩ (.int .i64 (a' : Int))).setCell ⟨M, 2, none⟩ (.int .i64 (f' : Int))).setCell ⟨M, 3, none⟩ (.int .i64 (e' : Int))) M 46 #[.slice A ys.length cap, .int .i64 (a' : Int), .int .i64 (f' : Int), .int .i64 (e' : Int)] := (((hM5.set 0 (.slice A ys.length cap)).set 1 (.int .i64 (a' : Int))).set 2 (.int .i64 (f' : Int))).set 3 (.int .i64 (e' : Int))
              have hgM : W.grownBy ((((W.setCell ⟨M, 0, none⟩ (.slice A ys.length cap)).setCell ⟨M, 1, none⟩ (.int .i64 (a' : Int))).setCell ⟨M, 2, none⟩ (.int .i64 (f' : Int))).setCell ⟨M, 3, none⟩ (.int .i64 (e' : Int))) (some M) := gb_set (gb_set (gb_set (gb_set (World.grownBy.refl W (some M)) 0 (.slice A ys.length cap)) 1 (.int .i64 (a' : Int))) 2 (.int .i64 (f' : Int))) 3 (.int .i64 (e' : Int))
              have hR6 := hR5.over_ hgM hPl
              have ho6 := ho5.low hgM (Nat.lt_succ_self _)
              have hv6 := (hvW.base_le (base' := M + 1) (by omega)).low hgM (Nat.lt_succ_self _)
              have B6 : Below w.heap.size w ((((W.setCell ⟨M, 0, none⟩ (.slice A ys.length cap)).setCell ⟨M, 1, none⟩ (.int .i64 (a' : Int))).setCell ⟨M, 2, none⟩ (.int .i64 (f' : Int))).setCell ⟨M, 3, none⟩ (.int .i64 (e' : Int))) := (((BW.setCell (by show w.heap.size ≤ M; omega) _).setCell (by show w.heap.size ≤ M; omega) _).setCell (by show w.heap.size ≤ M; omega) _).setCell (by show w.heap.size ≤ M; omega) _
              clear hM5 hR5 ho5 hWb BW hvW hgM hD
              go_wp2_with fail
              clear d0 d1 d2 d3 g0 g1 g2 g3 y0 y1 y2 y3
              generalize ((((W.setCell ⟨M, 0, none⟩ (.slice A ys.length cap)).setCell ⟨M, 1, none⟩ (.int .i64 (a' : Int))).setCell ⟨M, 2, none⟩ (.int .i64 (f' : Int))).setCell ⟨M, 3, none⟩ (.int .i64 (e' : Int))) = W6 at hM6 hR6 ho6 hv6 B6 ⊢
              have HSm := Lib.hid (fun W' (h : Below W6.heap.size W6 W') => (same_any W' c10 c9 (ho6.rdd.below h) (hv6.rdd.below h)).mono fun x W'' ⟨h1, h2⟩ => (⟨h1, h2 ▸ h⟩ : x = Ending.returned (Value.bool true) ∧ Below W6.heap.size W6 W''))
              have HAt := Lib.hid (fun W' (h : Below W6.heap.size W6 W') => (at_any (hR6.below h hR6.lt)).mono fun x W'' ⟨h1, h2⟩ => (⟨h1, h2 ▸ h⟩ : x = Ending.returned (Value.int .i64 (a' : Int)) ∧ Below W6.heap.size W6 W''))
              have HLf := Lib.hid (fun W' (h : Below W6.heap.size W6 W') => (left_at (hR6.below h hR6.lt)).mono fun x W'' ⟨h1, h2⟩ => (⟨h1, h.trans (h2.mono h.size)⟩ : x = Ending.returned (Value.int .i64 ((ys.length : Int) - (a' : Int))) ∧ Below W6.heap.size W6 W''))
              have HFt := Lib.hid (fun W' (h : Below W6.heap.size W6 W') => (fault_any (hR6.below h hR6.lt)).mono fun x W'' ⟨h1, h2⟩ => (⟨h1, h.trans (h2.mono h.size)⟩ : x = Ending.returned (Value.agg #[.int .i64 (f' : Int), .int .i64 (e' : Int)]) ∧ Below W6.heap.size W6 W''))
              have SM : ∀ W', Below W6.heap.size W6 W' → W'.cell? ⟨M, 1, none⟩ = some (.int .i64 (a' : Int)) ∧ W'.cell? ⟨M, 2, none⟩ = some (.int .i64 (f' : Int)) ∧ W'.cell? ⟨M, 3, none⟩ = some (.int .i64 (e' : Int)) := fun W' h => ⟨(hM6.below h).c 1 _ rfl, (hM6.below h).c 2 _ rfl, (hM6.below h).c 3 _ rfl⟩
              have hle6 := hR6.le
              change a' ≤ ys.length at hle6
              have hwr : IntKind.i64.wrap ((ys.length : Int) - (a' : Int)) = (ys.length : Int) - (a' : Int) := by rw [IntKind.wrap_i64]; omega
              go_region_held3 (fun W => W.cell? ⟨M, 1, none⟩ = some (.int .i64 (a' : Int)) ∧ W.cell? ⟨M, 2, none⟩ = some (.int .i64 (f' : Int)) ∧ W.cell? ⟨M, 3, none⟩ = some (.int .i64 (e' : Int)))
                (first | exact SM _ (Below.refl _ _).drew | exact SM _ hq1 | exact SM _ hq2 | exact SM _ hq3 | exact SM _ hq4 | fail)
                (first
                  | (go_at_call 17; refine (HSm.out _ ?_).mono ?_; (first | exact (Below.refl _ _).drew); rintro x Q1 ⟨rfl, hq1⟩)
                  | (go_at_call 25; refine (HAt.out _ ?_).mono ?_; (first | exact hq1); rintro x Q2 ⟨rfl, hq2⟩)
                  | (go_at_call 26; refine (HLf.out _ ?_).mono ?_; (first | exact hq2); rintro x Q3 ⟨rfl, hq3⟩)
                  | (go_at_call 27; refine (HFt.out _ ?_).mono ?_; (first | exact hq3); rintro x Q4 ⟨rfl, hq4⟩))
              go_wp2_with fail
              go_roundg (gk - 1)
              case measure => omega
              case rel => exact ⟨k + 1, a', f', e', by omega, by go_num, hR6.below hq4 hR6.lt, hM6.below hq4, B6.trans (hq4.mono B6.size)⟩
        · obtain rfl : k = len' := by omega
          go_wp2_with fail
          go_ret
          exact ⟨rfl, hB⟩

theorem cursorReads_walks : WalksTrue 7 Try.f7 := by
  intro H enc W base args ds p hval hA
  rw [Try.params7] at hA hval
  obtain ⟨v0, vs0, d0, ds0, p0, q0, hargs, rfl, rfl, h0, r0⟩ := trodAll_cons hA
  obtain ⟨v1, vs1, d1, ds1, p1, q1, rfl, rfl, rfl, h1, r1⟩ := trodAll_cons r0
  obtain ⟨rfl, rfl, rfl⟩ := trodAll_nil r1
  obtain rfl : args = #[v0, v1] := by cases args; simp_all
  obtain ⟨A0, len0, cap0, xs0, rfl, hc0, hm0, hI0⟩ := open_bytes (hval 0 22 v0 rfl rfl) h0
  obtain ⟨A1, len1, cap1, xs1, rfl, hc1, hm1, hI1, hR1⟩ := open_asks (hval 1 42 v1 rfl rfl) h1
  exact cursorReads_walk A0 len0 cap0 xs0 hc0 hm0 A1 len1 cap1 xs1 hc1 hm1 hR1 W hI0 hI1

theorem cursorReads_said : Rows.CursorReadsSaid :=
  OpenClaim.holds_of_wide 7 Try.f7 rfl rfl rfl rfl rfl rfl rfl ⟨rfl, rfl, rfl, rfl, rfl⟩ rfl rfl rfl rfl rfl (by kernel_rfl) Try.func7 (by kernel_rfl)
    (of_decide_eq_true (by kernel_rfl)) (by unfold Func.isWrapper; first | (rw [if_pos (by decide +kernel)]; kernel_rfl) | (rw [if_neg (by decide +kernel)]; exact ⟨rfl, rfl⟩))
    (fun os started H enc _ => law_lift (s := Rows.cursorReadsSpec) Try.func7 (by kernel_rfl) rfl rfl (by intro H ds hd; match ds, hd with | [_, _], _ => exact ⟨rfl, rfl, rfl⟩) (by kernel_rfl) cursorReads_walks os started H enc
      (ChangeSpec.witness6 (enc := enc) (C := Try.checked) false ⟨#[], #[.slice none 0 0, .slice none 0 0], []⟩ 8 (by kernel_rfl) (by kernel_rfl) (by kernel_rfl) (by kernel_rfl)))

end Go.Proofs.Ytghocjigmcdobaa
