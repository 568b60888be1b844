/-
  PROVED HERE: 'CursorWritesSaid': whatever most and l are, the Go function CursorWrites of package wayleavelaw04 returns true, and its arguments read behind the call as they read before. No condition.
-/
import Derived.Test.YtghocjigmcdobaaCOpen
import Derived.Deep.DeepCutAuto
import Derived.Deep.LoopGhost
namespace Go.Proofs.Ytghocjigmcdobaa
open Go.RowKit Go.Lib Go.ChangeShapes Go.WideShapes Go.ChangeAt

theorem Own8.rdd {w : World} {base n c : Nat} {A : Option Addr} {xs : List UInt8} (h : Own8 w base (.slice A n c) xs) : Rd w w.heap.size A n xs := by
  obtain ⟨A', m, c', e, _, _, _, hr⟩ := h.sl
  cases e
  exact hr
/-- Two slices lie apart: they share no block. -/
def Apart (u v : Value) : Prop := u.ownBlock = none ∨ u.ownBlock ≠ v.ownBlock
theorem Wtr.own_lt {w : World} {P : Nat} {v : Value} {s : WS} (h : Wtr w P v s) : ∀ g, v.ownBlock = some g → P < g ∧ g < w.heap.size := fun g hg => by
  have := World.ownsRow.lt h.own g hg
  omega
/-- What lies apart from the writer stays, and stays apart. -/
theorem WKeep.apart {w w' : World} {P : Nat} {v v' u : Value} {xs : List UInt8} (hk : WKeep w w' P v v') (hu : Own8 w (P + 1) u xs) (ha : Apart u v) : Own8 w' (P + 1) u xs ∧ Apart u v' := by
  refine ⟨⟨hu.1, ?_⟩, ?_⟩
  · rcases hu.2 with hn | ⟨g, cap, cur, rfl, hbg, hg, rest⟩
    · exact .inl hn
    · refine .inr ⟨g, cap, cur, rfl, hbg, (hk.block g (Array.getElem?_eq_some_iff.1 hg).1 (by omega) ?_).trans hg, rest⟩
      rcases ha with h | h
      · cases h
      · exact h
  · cases hb : u.ownBlock with
    | none => exact .inl hb
    | some g =>
      refine .inr (fun e => ?_)
      have hlt := (World.ownsRow.lt hu g hb).2
      rcases hk.own with ho | ho
      · rcases ha with h | h
        · rw [h] at hb; cases hb
        · exact h (e.trans ho)
      · have := ho g (by rw [← e]; exact hb)
        omega
theorem apart_new {w w' : World} {base : Nat} {P : Nat} {v u : Value} {s : WS} {xs : List UInt8} (hu : Own8 w' base u xs) (hv : Wtr w P v s) (hb : w.heap.size ≤ base) : Apart u v := by
  cases h : u.ownBlock with
  | none => exact .inl h
  | some g => exact .inr (fun e => by have := hu.lt g h; have := (hv.own_lt g (by rw [← e]; exact h)).2; omega)

/-- What stands behind the writer's call and the document's own reckoning of an ask: the writer's state (its fault F, its bytes), what is to be laid, and the document's fault G. -/
def Told (mo f : Nat) (ys : List UInt8) (G : Nat) (mb : List UInt8) (s : WS) : Prop :=
  (G ≠ 0 ∧ s.f = G ∧ s.ys = ys ∧ s.m = mo) ∨ (G = 0 ∧ f = 0 ∧ s = WS.put ⟨mo, ys, 0⟩ mb)

theorem step_append8 {w : World} {ops : Array Oper} {o : Oper} {a : Act} {K : Act → World → Prop} {Q : Exit → Act → World → Prop} {E : Prop} (hgd : o.guard = none) (s x : Operand)
    (ho : o.op = .call { callee := .builtin .append, args := #[s, x], argTypes := #[22, 22] })
    (base : Nat) (v : Value) (xs : List UInt8) (hs : a.eval s = v) (hown : Own8 w base v xs) (B : Nat) (A : Option Addr) (m c : Nat) (ys : List UInt8) (hx : a.eval x = .slice A m c) (hr : Rd w B A m ys)
    (hlen : xs.length + m ≤ 2000000000) (hbase : base ≤ w.heap.size)
    (h : ∀ v' w', Own8 w' base v' (xs ++ ys) → w.grownBy w' v.ownBlock → K (a.put o.dst v') w') :
    if Region.wanted o (yielded ops a.tmps) = true then Oper.wp Try.prog o a w K Q else E := by
  have hw : Region.wanted o (yielded ops a.tmps) = true := by simp [Region.wanted, hgd]
  rw [if_pos hw]
  obtain ⟨v', w', hrun, h2, h3, h4⟩ := run_append8 w o.type base v xs hown B A m c ys hr hlen hbase
  unfold Oper.wp execOp
  simp only [ho, resolve, invoke, builtin, Sem.run_bind, Sem.run_pure, Result.andThen_ok, List.map_toArray, List.map_cons, List.map_nil, hs, hx, hrun]
  exact h v' w' h2 h3

theorem told_put (mo f : Nat) (ys mb : List UInt8) : Told mo f ys f mb (WS.put ⟨mo, ys, f⟩ mb) := by
  by_cases hf : f = 0
  · subst hf
    exact .inr ⟨rfl, rfl, rfl⟩
  · rw [WS.put_bad (s := ⟨mo, ys, f⟩) hf]
    exact .inl ⟨hf, rfl, rfl, rfl⟩
theorem told_num (mo f : Nat) (ys : List UInt8) (m : Nat) (n : Int) (g : Bool) (h : f ≠ 0 ∨ (1 ≤ n ∧ n ≤ 8)) : Told mo f ys f (bytesOf m (sizeOf8 n) g) (WS.num ⟨mo, ys, f⟩ m n g) := by
  unfold WS.num
  by_cases hn : 1 ≤ n ∧ n ≤ 8
  · rw [if_pos hn]; exact told_put _ _ _ _
  · rw [if_neg hn]
    have hf : f ≠ 0 := by rcases h with h | h; exact h; exact absurd h hn
    rw [WS.fail_yes (s := ⟨mo, ys, f⟩) hf]
    exact .inl ⟨hf, rfl, rfl, rfl⟩
theorem told_bad (mo : Nat) (ys mb : List UInt8) (m : Nat) (n : Int) (g : Bool) (h : n < 1 ∨ 8 < n) : Told mo 0 ys 1 mb (WS.num ⟨mo, ys, 0⟩ m n g) := by
  unfold WS.num
  rw [if_neg (by omega), WS.fail_no (s := ⟨mo, ys, 0⟩) rfl]
  exact .inl ⟨by decide, rfl, rfl, rfl⟩

set_option maxRecDepth 100000 in
set_option maxHeartbeats 8000000 in
theorem cursorWrites_walk (z : Int) (hz0 : -9223372036854775808 ≤ z) (hz1 : z ≤ 9223372036854775807) (A' : Option Addr) (len' cap' : Nat) (xs : List As) (_hcap' : len' ≤ cap') (_hcm' : cap' ≤ maxLen) (hxs : ∀ x ∈ xs, (-9223372036854775808 ≤ x.n ∧ x.n ≤ 9223372036854775807) ∧ x.m < 18446744073709551616) (w : World)
    (hJ : AsksAt w w.heap.size A' len' xs) :
    Calls Try.prog 8 #[.int .i64 z, .slice A' len' cap'] w fun e W' => e = .returned (.bool true) ∧ Below w.heap.size w W' := by
  by_cases h2 : 60 < len'
  · have h2' : (60 : Int) < (len' : Int) := by omega
    go_enter Try.func8, Try.ntmps8
    go_wp2_with fail
    refine (awake_any _).mono ?_
    rintro e w1 ⟨rfl, hb1⟩
    go_wp2_with fail
    refine (awake_any _).mono ?_
    rintro e w2 ⟨rfl, hb2⟩
    go_wp2_with fail
    go_ret
    exact ⟨rfl, hb1.trans (hb2.mono hb1.size)⟩
  · have h2' : decide ((60 : Int) < (len' : Int)) = false := decide_eq_false (by omega)
    have hl60 : len' ≤ 60 := by omega
    have HX := Lib.hid hxs
    have HJs := Lib.hid hJ.1
    have HNW := Lib.hid (fun W => neww_any z hz1 W)
    clear hxs h2
    go_enter Try.func8, Try.ntmps8
    go_wp2_with fail
    refine (awake_any _).mono ?_
    rintro e w1 ⟨rfl, hb1⟩
    have z1 := hb1.size
    go_wp2_with fail
    refine (HNW.out _).mono ?_
    rintro e w2 ⟨rfl, hW2, hb2, hs2⟩
    have B2 := hb1.trans (hb2.mono z1)
    have hP0 : w.heap.size ≤ w1.heap.size := z1
    generalize w1.heap.size = P at hW2 hs2 hP0 ⊢
    have HS2 := Lib.hid hs2
    clear hb2 hs2 z1
    obtain ⟨mo, hmo⟩ : ∃ mo, z.toNat = mo := ⟨_, rfl⟩
    rw [hmo] at hW2
    have hmob : mo ≤ 9223372036854775807 := by omega
    go_upto_if 28 with (fail)
    go_cut [6] (fun s6 wx => s6 = .int .i64 (mo : Int) ∧ wx = w2)
    case first =>
      by_cases hz : z < 0
      · go_wp2_with fail
        go_meet
        exact ⟨by rw [← hmo]; congr 1; omega, rfl⟩
      · have hz' : decide (z < 0) = false := decide_eq_false hz
        go_wp2_with fail
        go_meet
        exact ⟨by rw [← hmo]; congr 1; omega, rfl⟩
    case rest =>
      obtain ⟨rfl, rfl⟩ := hcut
      clear HNW
      go_wp2_with fail
      go_loopg [7, 8, 9] len' (fun gh s7 s8 s9 wx => ∃ (k : Nat) (v : Value) (ys : List UInt8) (f : Nat) (zs : List UInt8), k + gh = len' ∧ s9 = .int .i64 (k : Int) ∧ s8 = .int .i64 (f : Int) ∧ Own8 wx (P + 1) s7 zs ∧ Apart s7 v ∧ Wtr wx P v ⟨mo, ys, f⟩ ∧ (f = 0 → zs = ys) ∧ ys.length ≤ k * 320 ∧ zs.length ≤ k * 320 ∧ Below w.heap.size w wx)
      case atStart => exact ⟨0, .slice none 0 0, [], 0, [], by omega, rfl, rfl, Own8.nil_ _ _, .inl rfl, hW2, fun _ => rfl, Nat.zero_le _, Nat.zero_le _, B2⟩
      case round =>
        clear hW2 B2
        obtain ⟨k, v, ys, f, zs, hkg, rfl, rfl, hZ, hap, hW, hzy, hyl, hzl, hB⟩ := hrel
        by_cases hlt : k < len'
        · have hlt' : (k : Int) < (len' : Int) := by omega
          have hk0 : (0 : Int) ≤ (k : Int) := by omega
          obtain ⟨b, off, rfl, hbl, hc⟩ := hJ.2 (by omega)
          obtain ⟨x, hx⟩ : ∃ x, xs[k]? = some x := ⟨_, List.getElem?_eq_getElem (by rw [HJs.out]; exact hlt)⟩
          obtain ⟨x0, x1, x2, x3, A2, l2, c2, x4, hr⟩ := hc k x hx
          obtain ⟨⟨hn0, hn1⟩, hm⟩ := HX.out x (List.mem_of_getElem? hx)
          obtain ⟨xk, n, g, m, bs⟩ := x
          simp only at x0 x1 x2 x3 hn0 hn1 hm hr
          rw [← hB.cell (p := ⟨b, off + k * 5, none⟩) hbl] at x0
          rw [← hB.cell (p := ⟨b, off + k * 5 + 1, none⟩) hbl] at x1
          rw [← hB.cell (p := ⟨b, off + k * 5 + 2, none⟩) hbl] at x2
          rw [← hB.cell (p := ⟨b, off + k * 5 + 3, none⟩) hbl] at x3
          rw [← hB.cell (p := ⟨b, off + k * 5 + 4, none⟩) hbl] at x4
          clear hc hx
          by_cases hl : 300 < l2
          · have hl' : (300 : Int) < (l2 : Int) := by omega
            go_wp2_with fail
            go_ret
            exact ⟨rfl, hB.alloc hB.size _⟩
          · have hl' : decide ((300 : Int) < (l2 : Int)) = false := decide_eq_false (by omega)
            have hl3 : l2 ≤ 300 := by omega
            have hle := hW.le
            change ys.length ≤ mo at hle
            clear hl
            go_upto_if 45 with (fail)
            have hX4 := Bk.new wr 49 #[.int .i64 xk, .int .i64 n, .bool g, .int .u64 (m : Int), .slice A2 l2 c2]
            have hW4 := hW.below ((Below.refl _ wr).alloc (Nat.le_refl _) (.cells #[.int .i64 xk, .int .i64 n, .bool g, .int .u64 (m : Int), .slice A2 l2 c2] 49))
            have hZ4 := hZ.alloc (.cells #[.int .i64 xk, .int .i64 n, .bool g, .int .u64 (m : Int), .slice A2 l2 c2] 49)
            have B4 := hB.alloc hB.size (.cells #[.int .i64 xk, .int .i64 n, .bool g, .int .u64 (m : Int), .slice A2 l2 c2] 49)
            have hXv : ∀ g', v.ownBlock = some g' → g' ≠ wr.heap.size := fun g' hg' => by have := (hW.own_lt g' hg').2; omega
            have hXP : P < wr.heap.size := hW.lt
            generalize wr.alloc (.cells #[.int .i64 xk, .int .i64 n, .bool g, .int .u64 (m : Int), .slice A2 l2 c2] 49) = w4 at hX4 hW4 hZ4 B4 ⊢
            generalize wr.heap.size = X at hX4 hXv hXP ⊢
            clear hZ hW hB x0 x1 x2 x3 x4
            have hXl := hX4.lt
            have c0 := hX4.c 0 _ rfl
            have c1 := hX4.c 1 _ rfl
            have c2' := hX4.c 2 _ rfl
            have c3 := hX4.c 3 _ rfl
            have c4' := hX4.c 4 _ rfl
            have hr4 : Rd w4 P A2 l2 bs := (hr.below B4).more hP0
            go_cut [8, 11] (fun s8 s11 w6 => ∃ (G : Nat) (v1 : Value) (s1 : WS) (mb : List UInt8) (Am : Option Addr) (lm cm : Nat), s8 = .int .i64 (G : Int) ∧ s11 = .slice Am lm cm ∧ Rd w6 w6.heap.size Am lm mb ∧ lm ≤ 320 ∧ Wtr w6 P v1 s1 ∧ Told mo f ys G mb s1 ∧ Own8 w6 (P + 1) u7 zs ∧ Apart u7 v1 ∧ Below w.heap.size w w6)
            case first =>
              by_cases k1 : xk = 1
              · subst k1
                go_wp2_with fail
                refine (wnum_any hW4 m n g (by show ys.length ≤ 900000000; omega)).mono ?_
                rintro e w5 ⟨v1, rfl, hW5, hk5⟩
                obtain ⟨hZ5, hap5⟩ := hk5.apart hZ4 hap
                have B5 : Below w.heap.size w w5 := B4.trans (hk5.below_P hP0 B4.size (fun g' hg' => by have := (hW4.own_lt g' hg').1; omega))
                have hX5 : Bk w5 X 49 _ := (hk5.block X hXl (by omega) (fun e => hXv _ e.symm rfl)).trans hX4
                have x1 := hX5.c 1 _ rfl
                have x2 := hX5.c 2 _ rfl
                have x3 := hX5.c 3 _ rfl
                have x4 := hX5.c 4 _ rfl
                have x0 := hX5.c 0 _ rfl
                clear hk5 hZ4 hX4 B4 hW4 c0 c1 c2' c3 c4'
                go_wp2_with fail
                refine (rput_any m hm n g w5).mono ?_
                rintro e w6 ⟨mv, rfl, hmv, hb6⟩
                obtain ⟨Am, lm, cm, rfl, hlm, _, _, hmr⟩ := hmv.sl
                have hl8 : lm ≤ 320 := by have := sizeOf8_le n; rw [hlm, bytesOf_length]; omega
                clear hlm hmv
                have hZ6 := hZ5.below hb6
                have hW6 := hW5.below hb6
                have B6 := B5.trans (hb6.mono B5.size)
                have hX6 := hX5.below hb6
                have x1 := hX6.c 1 _ rfl
                have x2 := hX6.c 2 _ rfl
                have x3 := hX6.c 3 _ rfl
                have x4 := hX6.c 4 _ rfl
                have x0 := hX6.c 0 _ rfl
                clear hZ5 hW5 B5 hX5 hX6 hb6
                by_cases hf : f = 0
                · subst hf
                  by_cases h1 : n < 1
                  · go_wp2_with fail
                    go_meet
                    exact ⟨1, v1, _, _, Am, lm, cm, rfl, rfl, hmr, hl8, hW6, told_bad mo ys _ m n g (.inl h1), hZ6, hap5, B6⟩
                  · have h1' : decide (n < 1) = false := decide_eq_false h1
                    by_cases h8 : 8 < n
                    · go_wp2_with fail
                      go_meet
                      exact ⟨1, v1, _, _, Am, lm, cm, rfl, rfl, hmr, hl8, hW6, told_bad mo ys _ m n g (.inr h8), hZ6, hap5, B6⟩
                    · have h8' : decide (8 < n) = false := decide_eq_false h8
                      go_wp2_with fail
                      go_meet
                      exact ⟨0, v1, _, _, Am, lm, cm, rfl, rfl, hmr, hl8, hW6, told_num mo 0 ys m n g (.inr ⟨by omega, by omega⟩), hZ6, hap5, B6⟩
                · have q1 : ((f : Int) == 0) = false := beq_eq_false_iff_ne.2 (by omega)
                  have q2 : (f == 0) = false := beq_eq_false_iff_ne.2 hf
                  go_wp2_with fail
                  go_meet
                  exact ⟨f, v1, _, _, Am, lm, cm, rfl, rfl, hmr, hl8, hW6, told_num mo f ys m n g (.inl hf), hZ6, hap5, B6⟩
              · by_cases k2 : xk = 2
                · subst k2
                  go_wp2_with fail
                  refine (wvar_any hW4 m hm (by show ys.length ≤ 900000000; omega)).mono ?_
                  rintro e w5 ⟨v1, rfl, hW5, hk5⟩
                  obtain ⟨hZ5, hap5⟩ := hk5.apart hZ4 hap
                  have B5 : Below w.heap.size w w5 := B4.trans (hk5.below_P hP0 B4.size (fun g' hg' => by have := (hW4.own_lt g' hg').1; omega))
                  have hX5 : Bk w5 X 49 _ := (hk5.block X hXl (by omega) (fun e => hXv _ e.symm rfl)).trans hX4
                  have x1 := hX5.c 1 _ rfl
                  have x2 := hX5.c 2 _ rfl
                  have x3 := hX5.c 3 _ rfl
                  have x4 := hX5.c 4 _ rfl
                  have x0 := hX5.c 0 _ rfl
                  clear hk5 hZ4 hX4 B4 hW4 c0 c1 c2' c3 c4'
                  go_wp2_with fail
                  refine (rvput_any m hm w5).mono ?_
                  rintro e w6 ⟨mv, rfl, hmv, hb6⟩
                  obtain ⟨Am, lm, cm, rfl, hlm, _, _, hmr⟩ := hmv.sl
                  have hl8 : lm ≤ 320 := by have := uvarint_length64 hm; omega
                  clear hlm hmv
                  have hZ6 := hZ5.below hb6
                  have hW6 := hW5.below hb6
                  have B6 := B5.trans (hb6.mono B5.size)
                  have hX6 := hX5.below hb6
                  have x1 := hX6.c 1 _ rfl
                  have x2 := hX6.c 2 _ rfl
                  have x3 := hX6.c 3 _ rfl
                  have x4 := hX6.c 4 _ rfl
                  have x0 := hX6.c 0 _ rfl
                  clear hZ5 hW5 B5 hX5 hX6 hb6
                  go_wp2_with fail
                  go_meet
                  exact ⟨f, v1, _, _, Am, lm, cm, rfl, rfl, hmr, hl8, hW6, told_put mo f ys _, hZ6, hap5, B6⟩
                · by_cases k4 : xk = 4
                  · subst k4
                    go_wp2_with fail
                    refine (wtext_any hW4 c2 hr4 (by show ys.length + bs.length ≤ 900000000; have := hr4.len; omega)).mono ?_
                    rintro e w5 ⟨v1, rfl, hW5, hk5⟩
                    obtain ⟨hZ5, hap5⟩ := hk5.apart hZ4 hap
                    have B5 : Below w.heap.size w w5 := B4.trans (hk5.below_P hP0 B4.size (fun g' hg' => by have := (hW4.own_lt g' hg').1; omega))
                    have hX5 : Bk w5 X 49 _ := (hk5.block X hXl (by omega) (fun e => hXv _ e.symm rfl)).trans hX4
                    have x1 := hX5.c 1 _ rfl
                    have x2 := hX5.c 2 _ rfl
                    have x3 := hX5.c 3 _ rfl
                    have x4 := hX5.c 4 _ rfl
                    have x0 := hX5.c 0 _ rfl
                    clear hk5 hZ4 hX4 B4 hW4 c0 c1 c2' c3 c4'
                    have hbl := hr.len
                    have hl10 := uvarint_length64 (x := l2) (by omega)
                    have HT := Lib.hid (show Told mo f ys f (uvarint l2 ++ bs) (WS.put ⟨mo, ys, f⟩ (uvarint bs.length ++ bs)) from hbl ▸ told_put mo f ys _)
                    have HP := Lib.hid (fun W => rvput_any l2 (by omega) W)
                    obtain ⟨U, hU⟩ : ∃ U, uvarint l2 = U := ⟨_, rfl⟩
                    rw [hU] at HT HP hl10
                    have HR := Lib.hid (fun W' (h : Below w5.heap.size w5 W') => ((hr.below B5).more B5.size).below h)
                    have HX4 := Lib.hid (fun W' (h : Below w5.heap.size w5 W') => (hX5.below h).c 4 _ rfl)
                    clear hU hbl
                    have hap9 := hap5
                    have hwl : IntKind.u64.wrap (l2 : Int) = (l2 : Int) := by rw [IntKind.wrap_u64]; omega
                    go_wp2_with fail
                    go_region_held3 (fun W => W.cell? ⟨X, 4, none⟩ = some (.slice A2 l2 c2))
                      (first | exact HX4.out _ (Below.refl _ _).drew | exact HX4.out _ hb7 | exact HX4.out _ hb8 | fail)
                      (first
                        | (go_at_call 32; refine (HP.out _).mono ?_; rintro e W7 ⟨uu, rfl, hu7, hb7'⟩; have hb7 : Below w5.heap.size w5 W7 := (Below.refl _ _).drew.trans (hb7'.mono (Nat.le_refl _)))
                        | (refine step_append8 (by rfl) _ _ (by rfl) w5.heap.size _ U (by rfl) hu7 _ _ _ _ bs (by rfl) (HR.out _ hb7) (by omega) hb7.size ?_; intro u8 W8 hu8 hg8; have hb8 : Below w5.heap.size w5 W8 := hb7.grown hg8 hb7.size hu7.lt; obtain ⟨A8, m8, c8, rfl, hm8, _, _, hr8⟩ := hu8.sl; have HM8 := Lib.hid hm8; clear hm8))
                    have hl8 : m8 ≤ 320 := by rw [HM8.out, List.length_append, hr.len]; omega
                    go_wp2_with fail
                    go_meet
                    exact ⟨f, v1, _, _, A8, m8, c8, rfl, rfl, hr8, hl8, hW5.below hb8, HT.out, hZ5.below hb8, hap9, B5.trans (hb8.mono B5.size)⟩
                  · have q1 : (xk == 1) = false := beq_eq_false_iff_ne.2 k1
                    have q2 : (xk == 2) = false := beq_eq_false_iff_ne.2 k2
                    have q4 : (xk == 4) = false := beq_eq_false_iff_ne.2 k4
                    clear k1 k2 k4
                    go_wp2_with fail
                    refine (wbytes_any hW4 c2 hr4 (by show ys.length + bs.length ≤ 1000000000; have := hr4.len; omega)).mono ?_
                    rintro e w5 ⟨v1, rfl, hW5, hk5⟩
                    obtain ⟨hZ5, hap5⟩ := hk5.apart hZ4 hap
                    have B5 : Below w.heap.size w w5 := B4.trans (hk5.below_P hP0 B4.size (fun g' hg' => by have := (hW4.own_lt g' hg').1; omega))
                    have hX5 : Bk w5 X 49 _ := (hk5.block X hXl (by omega) (fun e => hXv _ e.symm rfl)).trans hX4
                    have x1 := hX5.c 1 _ rfl
                    have x2 := hX5.c 2 _ rfl
                    have x3 := hX5.c 3 _ rfl
                    have x4 := hX5.c 4 _ rfl
                    have x0 := hX5.c 0 _ rfl
                    clear hk5 hZ4 hX4 B4 hW4 c0 c1 c2' c3 c4'
                    have hr5 := (hr.below B5).more B5.size
                    have hl8 : l2 ≤ 320 := by omega
                    go_wp2_with fail
                    go_meet
                    exact ⟨f, v1, _, _, A2, l2, c2, rfl, rfl, hr5, hl8, hW5, told_put mo f ys _, hZ5, hap5, B5⟩
            case rest =>
              obtain ⟨G, v1, s1, mb, Am, lm, cm, rfl, rfl, hmr, hlm, hW6, hT, hZ6, hap6, B6⟩ := hcut
              have hal : ∀ g', v1.ownBlock = some g' → g' < wc.heap.size := fun g' hg' => (hW6.own_lt g' hg').2
              obtain ⟨A7, m7, c7, rfl, hm7, _, _, hr7⟩ := hZ6.sl
              have HM7 := Lib.hid hm7
              have hm7b : m7 ≤ k * 320 := by omega
              clear hm7 hZ4 hr4 hap hX4 hW4 B4 c0 c1 c2' c3 c4' hXl hXv hXP hr
              rcases hT with ⟨hG, hsf, hsy, hsm⟩ | ⟨rfl, rfl, hs⟩
              · obtain ⟨m1, y1, f1⟩ := s1
                simp only at hsf hsy hsm
                subst hsf hsy hsm
                have q1 : ((f1 : Int) == 0) = false := beq_eq_false_iff_ne.2 (by omega)
                have q2 : (f1 == 0) = false := beq_eq_false_iff_ne.2 hG
                have q3 : ((f1 : Int) != 0) = true := bne_iff_ne.2 (by omega)
                have q4 : (f1 != 0) = true := bne_iff_ne.2 hG
                have q5 : ((f1 : Int) != (f1 : Int)) = false := by simp
                have HG := Lib.hid hG
                clear hG
                go_wp2_with fail
                refine (out_bad hW6 HG.out).mono ?_
                rintro e w7 ⟨rfl, hb7⟩
                go_wp2_with fail
                go_roundg (gk - 1)
                case measure => omega
                case rel => exact ⟨k + 1, v1, y1, f1, zs, by omega, by go_num, rfl, hZ6.below hb7, hap6, hW6.below hb7, fun h => absurd h HG.out, by omega, by omega, B6.trans (hb7.mono B6.size)⟩
              · obtain rfl : zs = ys := hzy rfl
                have hml := hmr.len
                have hI7 : (m7 : Int) ≤ (mo : Int) := by have := HM7.out; omega
                have hwr : IntKind.i64.wrap ((mo : Int) - (m7 : Int)) = (mo : Int) - (m7 : Int) := by rw [IntKind.wrap_i64]; omega
                by_cases hfit : mo - zs.length < mb.length
                · rw [WS.put_long (s := ⟨mo, zs, 0⟩) rfl hfit] at hs
                  subst hs
                  have hlt4 : (mo : Int) - (m7 : Int) < (lm : Int) := by have := HM7.out; omega
                  have hlt5 : decide ((mo : Int) - (m7 : Int) < (lm : Int)) = true := decide_eq_true hlt4
                  have HW6 := Lib.hid (out_bad hW6 (show (4 : Nat) ≠ 0 by decide))
                  clear hfit hml hzy
                  go_wp2_with fail
                  refine HW6.out.mono ?_
                  rintro e w7 ⟨rfl, hb7⟩
                  go_wp2_with fail
                  go_roundg (gk - 1)
                  case measure => omega
                  case rel => exact ⟨k + 1, v1, zs, 4, zs, by omega, by go_num, rfl, hZ6.below hb7, hap6, hW6.below hb7, fun h => absurd h (by decide), by omega, by omega, B6.trans (hb7.mono B6.size)⟩
                · rw [WS.put_fits (s := ⟨mo, zs, 0⟩) rfl hfit] at hs
                  subst hs
                  have hlt5 : decide ((mo : Int) - (m7 : Int) < (lm : Int)) = false := decide_eq_false (by have := HM7.out; omega)
                  have how0 := empty8 (base := wc.heap.size) wc (Nat.le_refl _)
                  have HML := Lib.hid hml
                  have hbnd : zs.length + lm ≤ 1000000 := by omega
                  clear hfit hml hzy
                  go_wp2_with (first
                    | (at_builtin; refine wpList_append8 (o := ⟨some 119, _, _, _, _, _⟩) rfl _ _ rfl wc.heap.size _ [] (by rfl) how0 _ _ _ _ zs (by rfl) (hr7.alloc (Nat.le_refl _) _) (by simp; omega) (by simp) ?_; intro v8 w8 ho8 hg8 _; rw [List.nil_append] at ho8; have hb8 := ((Below.refl wc.heap.size wc).alloc (Nat.le_refl _) (.cells #[] 5)).grown hg8 (by simp) how0.lt; have hr8 := hmr.below hb8)
                    | (at_builtin; refine wpList_append8 (o := ⟨some 121, _, _, _, _, _⟩) rfl _ _ rfl wc.heap.size _ zs (by rfl) ho8 _ _ _ _ mb (by rfl) hr8 (by omega) hb8.size ?_; intro v9 w9 ho9 hg9 _; have hb9 := hb8.grown hg9 hb8.size ho8.lt; obtain ⟨A9, m9, c9, rfl, hm9, _, _, hr9⟩ := ho9.sl; have HM9 := Lib.hid hm9; clear hm9 hr9))
                  have hW9 := hW6.below hb9
                  have hap9 := apart_new ho9 hW6 (Nat.le_refl _)
                  have B9 := B6.trans (hb9.mono B6.size)
                  have hP9 : P + 1 ≤ wc.heap.size := hW6.lt
                  refine (out_ok hW9 rfl (by show (zs ++ mb).length ≤ _; rw [List.length_append, HML.out]; omega)).mono ?_
                  rintro e w10 ⟨u10, rfl, ho10, hb10⟩
                  obtain ⟨A10, m10, c10, rfl, hm10, _, _, hr10⟩ := ho10.sl
                  clear hm10
                  have hr9 := ho9.rdd.below hb10
                  go_wp2_with fail
                  refine (same_any w10 c10 c9 hr10 hr9).mono ?_
                  rintro e w11 ⟨rfl, rfl⟩
                  go_wp2_with fail
                  go_roundg (gk - 1)
                  case measure => omega
                  case rel => exact ⟨k + 1, v1, zs ++ mb, 0, zs ++ mb, by omega, by go_num, rfl, (ho9.base_le hP9).below hb10, hap9, hW9.below hb10, fun _ => rfl, by rw [List.length_append, HML.out]; omega, by rw [List.length_append, HML.out]; omega, B9.trans (hb10.mono B9.size)⟩
        · obtain rfl : k = len' := by omega
          go_wp2_with fail
          go_ret
          exact ⟨rfl, hB⟩

theorem cursorWrites_walks : WalksTrue 8 Try.f8 := by
  intro H enc W base args ds p hval hA
  rw [Try.params8] at hA hval
  obtain ⟨v0, vs0, d0, ds0, p0, q0, hargs, rfl, rfl, h0, r0⟩ := trodAll_cons hA
  obtain ⟨v1, vs1, d1, ds1, p1, q1, rfl, rfl, rfl, h1, r1⟩ := trodAll_cons r0
  obtain ⟨rfl, rfl, rfl⟩ := trodAll_nil r1
  obtain rfl : args = #[v0, v1] := by cases args; simp_all
  obtain ⟨a0, rfl, rfl, rfl, w0⟩ := open_int Try.underlying3 (hval 0 3 v0 rfl rfl) h0
  obtain ⟨g0a, g0b⟩ := range_i64 w0
  obtain ⟨A1, len1, cap1, xs1, rfl, hc1, hm1, hI1, hR1⟩ := open_asks (hval 1 42 v1 rfl rfl) h1
  exact cursorWrites_walk a0 g0a g0b A1 len1 cap1 xs1 hc1 hm1 hR1 W hI1

theorem cursorWrites_said : Rows.CursorWritesSaid :=
  OpenClaim.holds_of_wide 8 Try.f8 rfl rfl rfl rfl rfl rfl rfl ⟨rfl, rfl, rfl, rfl, rfl⟩ rfl rfl rfl rfl rfl (by kernel_rfl) Try.func8 (by kernel_rfl)
    (of_decide_eq_true (by kernel_rfl)) (by unfold Func.isWrapper; first | (rw [if_pos (by decide +kernel)]; kernel_rfl) | (rw [if_neg (by decide +kernel)]; exact ⟨rfl, rfl⟩))
    (fun os started H enc _ => law_lift (s := Rows.cursorWritesSpec) Try.func8 (by kernel_rfl) rfl rfl (by intro H ds hd; match ds, hd with | [_, _], _ => exact ⟨rfl, rfl, rfl⟩) (by kernel_rfl) cursorWrites_walks os started H enc
      (ChangeSpec.witness6 (enc := enc) (C := Try.checked) false ⟨#[], #[.int .i64 0, .slice none 0 0], []⟩ 8 (by kernel_rfl) (by kernel_rfl) (by kernel_rfl) (by kernel_rfl)))

end Go.Proofs.Ytghocjigmcdobaa
