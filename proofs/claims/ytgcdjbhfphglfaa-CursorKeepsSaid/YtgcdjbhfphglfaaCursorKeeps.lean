/-
  PROVED HERE: 'CursorKeepsSaid': whatever b and plan are, the Go function CursorKeeps of package wayleavelaw04 returns true, and its arguments read behind the call as they read before. No condition.
-/
import Derived.Test.YtgcdjbhfphglfaaCOpen
import Derived.Test.YtgcdjbhfphglfaaCSame
import Derived.Test.YtgcdjbhfphglfaaCRScan
namespace Go.Proofs.Ytgcdjbhfphglfaa
open Go.RowKit Go.Lib Go.ChangeShapes Go.WideShapes Go.ChangeAt

theorem Own8.frozen {w : World} {base g n c : Nat} {xs : List UInt8} (h : Own8 w base (.slice (some ⟨g, 0, none⟩) n c) xs) (j : Nat) : w.frozen? ⟨g, j, none⟩ = false := by
  rcases h.2 with ⟨e, _⟩ | ⟨g', cap', cur, e, _, hg, _⟩
  · cases e
  · cases e
    exact frozen_of_row w g j cur _ hg
theorem Own8.rdd {w : World} {base n c : Nat} {A : Option Addr} {xs : List UInt8} (h : Own8 w base (.slice A n c) xs) : Rd w w.heap.size A n xs := by
  obtain ⟨A', m, c', e, _, _, _, hr⟩ := h.sl
  cases e
  exact hr
theorem OwnP.pcs {w : World} {base n c : Nat} {A : Option Addr} {ps : List Pc} (h : OwnP w base (.slice A n c) ps) : PcsAt w w.heap.size A n ps := by
  obtain ⟨A', m, c', e, _, _, _, hr⟩ := h.sl
  cases e
  exact hr
/-- The block of a slice of one's own; one that is given, if it has nothing. -/
theorem own_row {w : World} {base n c : Nat} {A : Option Addr} {xs : List UInt8} (ho : Own8 w base (.slice A n c) xs) (hn : n = xs.length) (B d : Nat) (hB : B ≤ base) (hd : B ≤ d) (hl : d < w.heap.size) :
    ∃ g, B ≤ g ∧ g < w.heap.size ∧ (0 < n → A = some ⟨g, 0, none⟩) ∧ ∀ (j : Nat) (x : UInt8), xs[j]? = some x → w.cell? ⟨g, j, none⟩ = some (v8 x) ∧ w.frozen? ⟨g, j, none⟩ = false := by
  subst hn
  rcases Nat.eq_zero_or_pos xs.length with h0 | h0
  · refine ⟨d, hd, hl, fun h => absurd h (by omega), fun j x hx => ?_⟩
    have := (List.getElem?_eq_some_iff.1 hx).1
    omega
  · obtain ⟨A', c', e, _, _, hr, hg⟩ := ho.rd
    cases e
    obtain ⟨g, rfl, hbg⟩ := hg h0
    obtain ⟨b, off, e, hlt⟩ := hr.addr h0
    cases e
    refine ⟨g, by omega, hlt, fun _ => rfl, fun j x hx => ⟨?_, ho.frozen j⟩⟩
    obtain ⟨b, off, e, _, hc⟩ := hr.2 h0
    cases e
    have := hc j x hx
    rwa [Nat.zero_add] at this

set_option maxRecDepth 100000 in
set_option maxHeartbeats 1000000 in
/-- A new reader: its bytes are its own. -/
theorem new_own (A : Option Addr) (len cap : Nat) (xs : List UInt8) (hlen : len ≤ 100000) (w : World) (hI : Rd w w.heap.size A len xs) :
    Calls Try.prog 18 #[.slice A len cap] w fun e W' => ∃ P A' cap', e = .returned (.pointer (some ⟨P, 0, none⟩)) ∧ Rdr W' P A' cap' ⟨xs, 0, 0, 0⟩ ∧ w.heap.size ≤ P ∧ Below w.heap.size w W' ∧ Own8 W' w.heap.size (.slice A' xs.length cap') xs := by
  have HL := Lib.hid hI.len
  go_enter Try.func18, Try.ntmps18
  go_wp2_with (go_at_call 44; refine (clone_any _ _ _ xs (by omega) _ hI).mono ?_; rintro e w1 ⟨v, rfl, hown, hb⟩; obtain ⟨A1, m1, c1, rfl, hm1, hmc, hcm, hrd⟩ := hown.sl; subst hm1)
  go_ret
  refine ⟨_, A1, c1, rfl, ⟨heap_alloc_new w1 _, hrd.alloc (Nat.le_refl _) _, Nat.zero_le _, by have := HL.out; show xs.length ≤ 100000; omega, hmc, hcm⟩, hb.size, hb.alloc hb.size _, hown.alloc _⟩

theorem Rdr.past {w w' : World} {P cap g base : Nat} {A : Option Addr} {s : RS} (h : Rdr w P A cap s) (ho : Own8 w base (.slice A s.xs.length cap) s.xs) (hP : base ≤ P) (hg : w.grownBy w' (some g)) (hgb : g < base) : Rdr w' P A cap s := by
  refine ⟨(hg.block P h.lt (fun e => by cases e; omega)).trans h.blk, ⟨h.rd.1, fun hn => ?_⟩, h.le, h.few, h.room, h.most⟩
  obtain ⟨b, off, e, hb, hc⟩ := h.rd.2 hn
  have hbg : base ≤ b := ho.lt b (by rw [e]; rfl)
  have hlt := h.lt
  exact ⟨b, off, e, hb, fun j x hx => (World.cell?_of_block (hg.block b (by omega) (fun e => by cases e; omega))).trans (hc j x hx)⟩

theorem takeB_all (bs : List UInt8) : RS.takeB ⟨bs, 0, 0, 0⟩ (bs.length : Int) = bs := by
  unfold RS.takeB
  rw [if_neg (by omega), Int.toNat_natCast]
  unfold RS.nextB RS.left
  simp

def SR.ps : SR → List Pc
  | .ok ps => ps
  | .bad _ _ => []
theorem scan_gave {w w' : World} {R : SR} {e : Ending} (h : ScanGave w R e w') :
    ∃ (Av : Option Addr) (cv a0 e0 : Nat), e = .returned (.tuple #[.slice Av R.ps.length cv, .agg #[.int .i64 (a0 : Int), .int .i64 (e0 : Int)]]) ∧ OwnP w' w.heap.size (.slice Av R.ps.length cv) R.ps ∧ Below w.heap.size w w' := by
  obtain ⟨hb, h⟩ := h
  cases R with
  | ok ps =>
    obtain ⟨v, rfl, ho⟩ := h
    obtain ⟨Av, mv, cv, rfl, hm, _⟩ := ho.sl
    subst hm
    exact ⟨Av, cv, 0, 0, rfl, ho, hb⟩
  | bad a e0 => exact ⟨none, 0, a, e0, h, OwnP.nil_ _ _, hb⟩

set_option maxRecDepth 100000 in
set_option maxHeartbeats 4000000 in
theorem cursorKeeps_walk (A : Option Addr) (len cap : Nat) (bs : List UInt8) (hcap : len ≤ cap) (hcm : cap ≤ maxLen) (A' : Option Addr) (len' cap' : Nat) (xs : List It) (_hcap' : len' ≤ cap') (_hcm' : cap' ≤ maxLen) (hxs : ∀ x ∈ xs, -9223372036854775808 ≤ x.n ∧ x.n ≤ 9223372036854775807) (w : World)
    (hI : Rd w w.heap.size A len bs) (hJ : PlanAt w w.heap.size A' len' xs) :
    Calls Try.prog 9 #[.slice A len cap, .slice A' len' cap'] w fun e W' => e = .returned (.bool true) ∧ Below w.heap.size w W' := by
  by_cases h1 : 1000 < len
  · have h1' : (1000 : Int) < (len : Int) := by omega
    go_enter Try.func9, Try.ntmps9
    go_wp2_with fail
    refine (awake_any _).mono ?_
    rintro e w1 ⟨rfl, hb1⟩
    go_wp2_with fail
    refine (awake_any _).mono ?_
    rintro e w2 ⟨rfl, hb2⟩
    go_wp2_with fail
    go_ret
    exact ⟨rfl, hb1.trans (hb2.mono hb1.size)⟩
  · have h1' : decide ((1000 : Int) < (len : Int)) = false := decide_eq_false (by omega)
    by_cases h2 : 40 < len'
    · have h2' : (40 : Int) < (len' : Int) := by omega
      go_enter Try.func9, Try.ntmps9
      go_wp2_with fail
      refine (awake_any _).mono ?_
      rintro e w1 ⟨rfl, hb1⟩
      go_wp2_with fail
      refine (awake_any _).mono ?_
      rintro e w2 ⟨rfl, hb2⟩
      go_wp2_with fail
      go_ret
      exact ⟨rfl, hb1.trans (hb2.mono hb1.size)⟩
    · have h2' : decide ((40 : Int) < (len' : Int)) = false := decide_eq_false (by omega)
      obtain rfl : bs.length = len := hI.len
      have hb' : (bs.length : Int) ≤ 1000 := by omega
      have HS := Lib.hid (fun W A2 c2 hI hJ => (scan_any A2 bs.length c2 bs A' len' cap' xs (by omega) (by omega) hxs W hI hJ).mono (fun _ _ h => scan_gave h))
      have HQ := Lib.hid (fun W hI hJ => (rscan_any A bs.length cap bs A' len' cap' xs (by omega) (by omega) hcap hcm hxs W hI hJ).mono (fun _ _ h => scan_gave h))
      obtain ⟨R, hR⟩ : ∃ R, scanGo ⟨bs, 0, 0, 0⟩ xs [] = R := ⟨_, rfl⟩
      rw [hR] at HS HQ
      have hps : R.ps.length ≤ 1000 := by
        cases R with
        | bad a e0 => exact Nat.zero_le _
        | ok ps =>
          obtain ⟨qs, e1, _, e3, _⟩ := scan_back xs ⟨bs, 0, 0, 0⟩ [] ps rfl (Nat.zero_le _) hR
          have := hJ.size
          show ps.length ≤ 1000
          rw [e1, List.nil_append]
          omega
      have HP := Lib.hid hps
      clear hps hR hxs h1 h2
      go_enter Try.func9, Try.ntmps9
      go_wp2_with fail
      refine (awake_any _).mono ?_
      rintro e w1 ⟨rfl, hb1⟩
      have z1 := hb1.size
      have hI1 := (hI.below hb1).more z1
      have how0 := empty8 (base := w1.heap.size) w1 (Nat.le_refl _)
      go_wp2_with (at_builtin; refine wpList_append8 rfl _ _ rfl w1.heap.size _ [] (by rfl) how0 _ _ _ _ bs (by rfl) (hI1.alloc (Nat.le_refl _) _) (by simp; omega) (by simp) ?_; intro v2 w2 ho2 hgrow2 _)
      have hb2 := ((Below.refl w1.heap.size w1).alloc (Nat.le_refl _) (.cells #[] 5)).grown hgrow2 (by simp) how0.lt
      have B2 := hb1.trans (hb2.mono z1)
      rw [List.nil_append] at ho2
      obtain ⟨A2, m2, c2, rfl, hm2, hmc2, hcm2, hr2⟩ := ho2.sl
      subst hm2
      have z2 : w1.heap.size + 1 ≤ w2.heap.size := by have := hgrow2.size; simpa using this
      clear how0 hgrow2 hI1 hmc2 hcm2
      refine (HS.out _ _ _ hr2 ((hJ.below B2).more B2.size)).mono ?_
      rintro e w3 ⟨Ag, cg, a0, e0, rfl, hg3, hb3⟩
      have z3 := hb3.size
      have B3 := B2.trans (hb3.mono B2.size)
      have B4 := B3.alloc B3.size (.cells #[.int .i64 (a0 : Int), .int .i64 (e0 : Int)] 28)
      have hr4 : Rd (w3.alloc (.cells #[.int .i64 (a0 : Int), .int .i64 (e0 : Int)] 28)) (w3.alloc (.cells #[.int .i64 (a0 : Int), .int .i64 (e0 : Int)] 28)).heap.size A2 bs.length bs := (((hr2.below hb3).more z3).alloc (Nat.le_refl _) _).more (by simp)
      have hg4 := hg3.below ((Below.refl _ w3).alloc (Nat.le_refl _) (.cells #[.int .i64 (a0 : Int), .int .i64 (e0 : Int)] 28))
      go_wp2_with fail
      refine (new_own A2 bs.length c2 bs (by omega) _ hr4).mono ?_
      rintro e w5 ⟨P, A5, c5, rfl, hR5, hP5, hb5, ho5⟩
      have hP5' : w3.heap.size + 1 ≤ P := by simpa using hP5
      have z5 : w3.heap.size + 1 ≤ w5.heap.size := by have := hb5.size; simpa using this
      have B5 := B4.trans (hb5.mono B4.size)
      have hr5 := (hr4.below hb5).more hb5.size
      go_wp2_with fail
      refine (same_any w5 c2 cap hr5 (hI.below B5)).mono ?_
      rintro e w6 ⟨rfl, rfl⟩
      obtain ⟨g, hg0, hg1, hA, hcs⟩ := own_row ho2 rfl w1.heap.size w1.heap.size (Nat.le_refl _) (Nat.le_refl _) (by omega)
      have hX : w5.heap[g]? = w2.heap[g]? := (hb5.block g (by simp; omega)).trans ((Below.heap_alloc w3 (.cells #[.int .i64 (a0 : Int), .int .i64 (e0 : Int)] 28) g (by omega)).trans (hb3.block g hg1))
      have HC := Lib.hid (show ∀ (j : Nat) (x : UInt8), bs[j]? = some x → w5.cell? ⟨g, j, none⟩ = some (v8 x) ∧ w5.frozen? ⟨g, j, none⟩ = false from fun j x hx => ⟨(World.cell?_of_block hX).trans (hcs j x hx).1, (World.frozen?_of_block hX).trans (hcs j x hx).2⟩)
      have H4 := Lib.hid hg4
      have H5 := Lib.hid hR5
      have HO := Lib.hid ho5
      have HB := Lib.hid B5
      have HI := Lib.hid hI
      have HJ := Lib.hid hJ
      have hz5 := B5.size
      clear hX hcs hg4 hR5 ho5 B5 hI hJ ho2 hr2 hr4 hr5 B2 B3 B4 hb1 hb2 hb3 hg3
      have HN := Lib.hid hb5
      clear hb5 hP5
      go_wp2_with fail
      go_loopw [9] (fun i wr => ∃ k : Nat, k ≤ bs.length ∧ i = .int .i64 (k : Int) ∧ w5.grownBy wr (some g) ∧ ∀ (j : Nat) (x : UInt8), k ≤ j → bs[j]? = some x → wr.cell? ⟨g, j, none⟩ = some (v8 x) ∧ wr.frozen? ⟨g, j, none⟩ = false)
        (fun i _ => bs.length - (intOf i).toNat)
      case atStart => exact ⟨0, Nat.zero_le _, rfl, World.grownBy.refl _ _, fun j x _ hx => HC.out j x hx⟩
      case round =>
        obtain ⟨k, hk, rfl, hgr, hcs⟩ := hrel
        by_cases hlt : k < bs.length
        · have hlt' : (k : Int) < (bs.length : Int) := by omega
          have hk0 : (0 : Int) ≤ (k : Int) := by omega
          obtain ⟨hc, hf⟩ := hcs k (bs[k]'hlt) (Nat.le_refl _) (List.getElem?_eq_getElem _)
          obtain ⟨x, hx⟩ : ∃ x, bs[k]'hlt = x := ⟨_, rfl⟩
          rw [hx] at hc
          unfold v8 at hc
          clear hx
          have HK := Lib.hid hcs
          clear hcs
          obtain rfl := hA (by omega)
          go_wp2_with fail
          go_roundw
          case rel =>
            refine ⟨k + 1, by omega, by go_num, gb_set hgr _ _, fun j y hj hy => ?_⟩
            obtain ⟨c1, c2⟩ := HK.out j y (by omega) hy
            rw [World.cell?_setCell_other _ _ _ _ (by intro e; cases e; omega), World.frozen?_setCell]
            exact ⟨c1, c2⟩
          case measure => simp [intOf]; omega
        · obtain rfl : k = bs.length := by omega
          clear hcs hA
          have B6 : Below w.heap.size w wr := HB.out.grown hgr hz5 (fun g' e => by cases e; omega)
          have z6 := hgr.size
          have hR6 : Rdr wr P A5 c5 ⟨bs, 0, 0, 0⟩ := H5.out.past HO.out (by simp; omega) hgr (by simp; omega)
          have G6 : (w3.alloc (.cells #[.int .i64 (a0 : Int), .int .i64 (e0 : Int)] 28)).grownBy wr (some g) := gb_trans (gb_below (World.grownBy.refl _ _) HN.out (Nat.le_refl _)) hgr
          go_wp2_with fail
          refine (take_any hR6 (bs.length : Int)).mono ?_
          rintro e w7 ⟨v7, rfl, ho7, hR7, g7⟩
          rw [takeB_all] at ho7
          obtain ⟨A7, m7, c7, rfl, hm7, hmc7, hcm7, hr7⟩ := ho7.sl
          subst hm7
          have z7 := g7.size
          have hP7 := hR7.lt
          have how7 := empty8 (base := w7.heap.size) w7 (Nat.le_refl _)
          have B7 : Below w.heap.size w w7 := B6.trans (gb_to_below (B := w.heap.size) g7 (by omega) B6.size)
          have G7 := gb_below G6 (gb_to_below (B := (w3.alloc (.cells #[.int .i64 (a0 : Int), .int .i64 (e0 : Int)] 28)).heap.size) g7 (by simp; omega) (by simp; omega)) (Nat.le_refl _)
          clear hmc7 hcm7 hR7 hR6
          go_wp2_with (at_builtin; refine wpList_append8 rfl _ _ rfl w7.heap.size _ [] (by rfl) how7 _ _ _ _ bs (by rfl) (hr7.alloc (Nat.le_refl _) _) (by simp; omega) (by simp) ?_; intro v9 w8 ho8 hgrow8 _)
          have hb8 := ((Below.refl w7.heap.size w7).alloc (Nat.le_refl _) (.cells #[] 5)).grown hgrow8 (by simp) how7.lt
          rw [List.nil_append] at ho8
          obtain ⟨A8, m8, c8, rfl, hm8, hmc8, hcm8, hr8⟩ := ho8.sl
          subst hm8
          have z8 : w7.heap.size + 1 ≤ w8.heap.size := by have := hgrow8.size; simpa using this
          have B8 := B7.trans (hb8.mono B7.size)
          have G8 := gb_below G7 hb8 (by simp; omega)
          obtain ⟨g2, hg20, hg21, hA7, hcs7⟩ := own_row ho7 rfl (w3.heap.size + 1) P (by omega) hP5' hP7
          have hX8 : w8.heap[g2]? = w7.heap[g2]? := hb8.block g2 hg21
          have HC8 := Lib.hid (show ∀ (j : Nat) (x : UInt8), bs[j]? = some x → w8.cell? ⟨g2, j, none⟩ = some (v8 x) ∧ w8.frozen? ⟨g2, j, none⟩ = false from fun j x hx => ⟨(World.cell?_of_block hX8).trans (hcs7 j x hx).1, (World.frozen?_of_block hX8).trans (hcs7 j x hx).2⟩)
          have HO8 := Lib.hid ho8
          have HB8 := Lib.hid B8
          have HG8 := Lib.hid G8
          have hz8 := B8.size
          clear hX8 hcs7 how7 hgrow8 hb8 hr8 hmc8 hcm8 ho8 B8 G8 G7 B7 G6 B6 ho7 hr7 g7
          go_loopw [12] (fun i wr => ∃ k : Nat, k ≤ bs.length ∧ i = .int .i64 (k : Int) ∧ w8.grownBy wr (some g2) ∧ ∀ (j : Nat) (x : UInt8), k ≤ j → bs[j]? = some x → wr.cell? ⟨g2, j, none⟩ = some (v8 x) ∧ wr.frozen? ⟨g2, j, none⟩ = false)
            (fun i _ => bs.length - (intOf i).toNat)
          case atStart => exact ⟨0, Nat.zero_le _, rfl, World.grownBy.refl _ _, fun j x _ hx => HC8.out j x hx⟩
          case round =>
            obtain ⟨k, hk, rfl, hgr2, hcs⟩ := hrel
            by_cases hlt : k < bs.length
            · have hlt' : (k : Int) < (bs.length : Int) := by omega
              have hk0 : (0 : Int) ≤ (k : Int) := by omega
              obtain ⟨hc, hf⟩ := hcs k (bs[k]'hlt) (Nat.le_refl _) (List.getElem?_eq_getElem _)
              obtain ⟨x, hx⟩ : ∃ x, bs[k]'hlt = x := ⟨_, rfl⟩
              rw [hx] at hc
              unfold v8 at hc
              clear hx
              have HK := Lib.hid hcs
              clear hcs
              obtain rfl := hA7 (by omega)
              go_wp2_with fail
              go_roundw
              case rel =>
                refine ⟨k + 1, by omega, by go_num, gb_set hgr2 _ _, fun j y hj hy => ?_⟩
                obtain ⟨c1, c2⟩ := HK.out j y (by omega) hy
                rw [World.cell?_setCell_other _ _ _ _ (by intro e; cases e; omega), World.frozen?_setCell]
                exact ⟨c1, c2⟩
              case measure => simp [intOf]; omega
            · obtain rfl : k = bs.length := by omega
              clear hcs hA7
              have z9 := hgr2.size
              have B9 : Below w.heap.size w wr := HB8.out.grown hgr2 hz8 (fun g' e => by cases e; omega)
              have G9 := gb_below HG8.out (gb_to_below (B := (w3.alloc (.cells #[.int .i64 (a0 : Int), .int .i64 (e0 : Int)] 28)).heap.size) hgr2 (by simp; omega) (by simp; omega)) (Nat.le_refl _)
              have hg9 := H4.out.kept G9 (fun b hb => by cases hb; exact hg1)
              have ho9 := HO8.out.kept hgr2 (.inr (fun e => by have := HO8.out.lt g2 e; omega))
              go_wp2_with fail
              refine (HQ.out _ ((HI.out.below B9).more B9.size) ((HJ.out.below B9).more B9.size)).mono ?_
              rintro e w10 ⟨Aw, cw, a1, e1, rfl, hw10, hb10⟩
              have z10 := hb10.size
              have B11 := (B9.trans (hb10.mono B9.size)).alloc (by have := B9.size; omega) (.cells #[.int .i64 (a1 : Int), .int .i64 (e1 : Int)] 28)
              have hk11 := ((ho9.rdd.below hb10).more z10).alloc (Nat.le_refl _) (.cells #[.int .i64 (a1 : Int), .int .i64 (e1 : Int)] 28)
              have hg11 := (hg9.below hb10).below ((Below.refl _ w10).alloc (Nat.le_refl _) (.cells #[.int .i64 (a1 : Int), .int .i64 (e1 : Int)] 28))
              have hw11 := hw10.below ((Below.refl _ w10).alloc (Nat.le_refl _) (.cells #[.int .i64 (a1 : Int), .int .i64 (e1 : Int)] 28))
              have hps := HP.out
              go_wp2_with fail
              refine (same_any _ c8 cap hk11 (HI.out.below B11)).mono ?_
              rintro e w11 ⟨rfl, rfl⟩
              go_wp2_with fail
              refine (rsame_any _ _ hps hg11.pcs hw11.pcs).mono ?_
              rintro e w12 ⟨rfl, n, rfl⟩
              go_wp2_with fail
              go_ret
              exact ⟨rfl, below_drewN B11 n⟩

theorem cursorKeeps_walks : WalksTrue 9 Try.f9 := by
  intro H enc W base args ds p hval hA
  rw [Try.params9] at hA hval
  obtain ⟨v0, vs0, d0, ds0, p0, q0, hargs, rfl, rfl, h0, r0⟩ := trodAll_cons hA
  obtain ⟨v1, vs1, d1, ds1, p1, q1, rfl, rfl, rfl, h1, r1⟩ := trodAll_cons r0
  obtain ⟨rfl, rfl, rfl⟩ := trodAll_nil r1
  obtain rfl : args = #[v0, v1] := by cases args; simp_all
  obtain ⟨A0, len0, cap0, xs0, rfl, hc0, hm0, hI0⟩ := open_bytes (hval 0 22 v0 rfl rfl) h0
  obtain ⟨A1, len1, cap1, xs1, rfl, hc1, hm1, hI1, hR1⟩ := open_items (hval 1 23 v1 rfl rfl) h1
  exact cursorKeeps_walk A0 len0 cap0 xs0 hc0 hm0 A1 len1 cap1 xs1 hc1 hm1 hR1 W hI0 hI1

theorem cursorKeeps_said : Rows.CursorKeepsSaid :=
  OpenClaim.holds_of_wide 9 Try.f9 rfl rfl rfl rfl rfl rfl rfl ⟨rfl, rfl, rfl, rfl, rfl⟩ rfl rfl rfl rfl rfl (by kernel_rfl) Try.func9 (by kernel_rfl)
    (of_decide_eq_true (by kernel_rfl)) (by unfold Func.isWrapper; first | (rw [if_pos (by decide +kernel)]; kernel_rfl) | (rw [if_neg (by decide +kernel)]; exact ⟨rfl, rfl⟩))
    (fun os started H enc _ => law_lift (s := Rows.cursorKeepsSpec) Try.func9 (by kernel_rfl) rfl rfl (by intro H ds hd; match ds, hd with | [_, _], _ => exact ⟨rfl, rfl, rfl⟩) (by kernel_rfl) cursorKeeps_walks os started H enc
      (ChangeSpec.witness6 (enc := enc) (C := Try.checked) false ⟨#[], #[.slice none 0 0, .slice none 0 0], []⟩ 8 (by kernel_rfl) (by kernel_rfl) (by kernel_rfl) (by kernel_rfl)))

end Go.Proofs.Ytgcdjbhfphglfaa
