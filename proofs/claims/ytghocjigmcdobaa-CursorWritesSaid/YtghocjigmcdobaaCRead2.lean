/-
  The contracts of cursor.read on bytes and texts, and on an item that may not be.
-/
import Derived.Test.YtghocjigmcdobaaCRead
namespace Go.Proofs.Ytghocjigmcdobaa
open Go.RowKit Go.Lib

set_option maxRecDepth 100000 in
set_option maxHeartbeats 2000000 in
theorem read_take {w : World} {P : Nat} {A : Option Addr} {cap : Nat} {s : RS} (h : Rdr w P A cap s) (n : Int) (hn : 0 ≤ n) (b : Bool) :
    Calls Try.prog 37 #[.pointer (some ⟨P, 0, none⟩), .agg #[.int .i64 3, .int .i64 n, .bool b]] w (ReadGave w P A cap (s.take n) 0 (s.takeB n)) := by
  have hm : mayB 3 n = true := decide_eq_true (by omega)
  have HM := Lib.hid (fun W => hm ▸ maybe_any 3 n b W)
  clear hm
  have hPw := h.lt
  have h2 := (h.alloc (.cells #[.int .i64 3, .int .i64 n, .bool b] 68)).alloc (.cells #[.int .u64 0, .slice none 0 0] 70)
  have X0 := (Bk.new w 68 #[.int .i64 3, .int .i64 n, .bool b]).alloc (.cells #[.int .u64 0, .slice none 0 0] 70)
  have Y0 := Bk.new (w.alloc (.cells #[.int .i64 3, .int .i64 n, .bool b] 68)) 70 #[.int .u64 0, .slice none 0 0]
  rw [World.size_alloc] at Y0
  have hB2 : Below w.heap.size w ((w.alloc (.cells #[.int .i64 3, .int .i64 n, .bool b] 68)).alloc (.cells #[.int .u64 0, .slice none 0 0] 70)) := ((Below.refl _ _).alloc (Nat.le_refl _) _).alloc (by simp) _
  by_cases hf : (s.take n).fe = 0
  · have HF := Lib.hid hf
    clear hf
    go_enter Try.func37, Try.ntmps37
    go_wp2_with fail
    refine (HM.out _).mono ?_
    rintro e w1 ⟨rfl, hb1⟩
    have hB1 := hB2.trans (hb1.mono (by simp <;> omega))
    have h1 := h2.below hb1 h2.lt
    have X2 := (X0.below hb1).alloc (.cells #[.int .u64 0, .slice none 0 0] 70)
    have Y2 := (Y0.below hb1).alloc (.cells #[.int .u64 0, .slice none 0 0] 70)
    have P2 := Bk.new w1 70 #[.int .u64 0, .slice none 0 0]
    have x0 := X2.c 0 _ rfl
    have x1 := X2.c 1 _ rfl
    have x2 := X2.c 2 _ rfl
    have z1 : w.heap.size + 1 + 1 ≤ w1.heap.size := by have := hb1.size; simpa using this
    go_wp2_with fail
    refine (take_any (h1.alloc _) n).mono ?_
    rintro e w2 ⟨v, rfl, hown, h3, g3⟩
    obtain ⟨A9, m9, c9, rfl, hm9, _, _, hr9⟩ := hown.sl
    have HM9 := Lib.hid hm9
    clear hm9 hr9
    have hown2 : Own8 w2 (w1.heap.size + 1) (.slice A9 m9 c9) (s.takeB n) := by rw [World.size_alloc] at hown; exact hown
    clear hown
    have Y3 := Y2.grown g3 (by omega)
    have P3 := P2.grown g3 (by omega)
    have p0 := P3.c 0 _ rfl
    have p1 := P3.c 1 _ rfl
    have pz := P3.fz 1
    have hs2 : w1.heap.size + 1 ≤ w2.heap.size := by have := g3.size; simpa using this
    have g4 := gb_trans (gb_alloc (gb_below (World.grownBy.refl w (some P)) hB1 (Nat.le_refl _)) (.cells #[.int .u64 0, .slice none 0 0] 70)) g3
    have h4 := h3.far (p := ⟨w1.heap.size, 1, none⟩) (by simp; omega) (.slice A9 m9 c9)
    have Y4 := Y3.far (p := ⟨w1.heap.size, 1, none⟩) (by simp; omega) (.slice A9 m9 c9)
    have P4 := P3.set 1 (.slice A9 m9 c9)
    have q0 := P4.c 0 _ rfl
    have q1 := P4.c 1 _ rfl
    have y0 := Y4.c 0 _ rfl
    have y1 := Y4.c 1 _ rfl
    have yz0 := Y4.fz 0
    have yz1 := Y4.fz 1
    have g5 := gb_far g4 (p := ⟨w1.heap.size, 1, none⟩) (by simp; omega) (.slice A9 m9 c9)
    go_wp2_with fail
    refine (goon_no h4 HF.out).mono ?_
    rintro e w3 ⟨rfl, rfl⟩
    go_wp2_with fail
    have Y5 := (Y4.set 0 (.int .u64 0)).set 1 (.slice A9 m9 c9)
    have h5 := (h4.far (p := ⟨w.heap.size + 1, 0, none⟩) (by simp; omega) (.int .u64 0)).far (p := ⟨w.heap.size + 1, 1, none⟩) (by simp; omega) (.slice A9 m9 c9)
    have g6 := gb_far (gb_far g5 (p := ⟨w.heap.size + 1, 0, none⟩) (by simp) (.int .u64 0)) (p := ⟨w.heap.size + 1, 1, none⟩) (by simp) (.slice A9 m9 c9)
    refine bodyPost_ret (v := .agg #[.int .u64 0, .slice A9 m9 c9]) (rres1 rfl _ _ (w.heap.size + 1) rfl Y5) rfl ⟨h5, g6, ?_⟩
    rw [if_pos HF.out]
    exact ⟨_, rfl, ((hown2.low (b := w1.heap.size) (gb_set (World.grownBy.refl _ _) 1 _) (by omega)).low (b := w.heap.size + 1) (gb_set (gb_set (World.grownBy.refl _ _) 0 _) 1 _) (by omega)).base_le (by omega)⟩
  · have HF := Lib.hid hf
    clear hf
    go_enter Try.func37, Try.ntmps37
    go_wp2_with fail
    refine (HM.out _).mono ?_
    rintro e w1 ⟨rfl, hb1⟩
    have hB1 := hB2.trans (hb1.mono (by simp <;> omega))
    have h1 := h2.below hb1 h2.lt
    have X2 := (X0.below hb1).alloc (.cells #[.int .u64 0, .slice none 0 0] 70)
    have Y2 := (Y0.below hb1).alloc (.cells #[.int .u64 0, .slice none 0 0] 70)
    have P2 := Bk.new w1 70 #[.int .u64 0, .slice none 0 0]
    have x0 := X2.c 0 _ rfl
    have x1 := X2.c 1 _ rfl
    have x2 := X2.c 2 _ rfl
    have z1 : w.heap.size + 1 + 1 ≤ w1.heap.size := by have := hb1.size; simpa using this
    go_wp2_with fail
    refine (take_any (h1.alloc _) n).mono ?_
    rintro e w2 ⟨v, rfl, hown, h3, g3⟩
    obtain ⟨A9, m9, c9, rfl, hm9, _, _, hr9⟩ := hown.sl
    have HM9 := Lib.hid hm9
    clear hm9 hr9
    have hown2 : Own8 w2 (w1.heap.size + 1) (.slice A9 m9 c9) (s.takeB n) := by rw [World.size_alloc] at hown; exact hown
    clear hown
    have Y3 := Y2.grown g3 (by omega)
    have P3 := P2.grown g3 (by omega)
    have p0 := P3.c 0 _ rfl
    have p1 := P3.c 1 _ rfl
    have pz := P3.fz 1
    have hs2 : w1.heap.size + 1 ≤ w2.heap.size := by have := g3.size; simpa using this
    have g4 := gb_trans (gb_alloc (gb_below (World.grownBy.refl w (some P)) hB1 (Nat.le_refl _)) (.cells #[.int .u64 0, .slice none 0 0] 70)) g3
    have h4 := h3.far (p := ⟨w1.heap.size, 1, none⟩) (by simp; omega) (.slice A9 m9 c9)
    have Y4 := Y3.far (p := ⟨w1.heap.size, 1, none⟩) (by simp; omega) (.slice A9 m9 c9)
    have P4 := P3.set 1 (.slice A9 m9 c9)
    have q0 := P4.c 0 _ rfl
    have q1 := P4.c 1 _ rfl
    have y0 := Y4.c 0 _ rfl
    have y1 := Y4.c 1 _ rfl
    have yz0 := Y4.fz 0
    have yz1 := Y4.fz 1
    have g5 := gb_far g4 (p := ⟨w1.heap.size, 1, none⟩) (by simp; omega) (.slice A9 m9 c9)
    go_wp2_with fail
    refine (goon_yes h4 HF.out).mono ?_
    rintro e w3 ⟨rfl, rfl⟩
    refine ⟨rfl, h4, g5, ?_⟩
    rw [if_neg HF.out]

set_option maxRecDepth 100000 in
set_option maxHeartbeats 2000000 in
theorem read_text {w : World} {P : Nat} {A : Option Addr} {cap : Nat} {s : RS} (h : Rdr w P A cap s) (n : Int) (hn : 0 ≤ n) (hz0 : -9223372036854775808 ≤ n) (hz1 : n ≤ 9223372036854775807) (b : Bool) :
    Calls Try.prog 37 #[.pointer (some ⟨P, 0, none⟩), .agg #[.int .i64 4, .int .i64 n, .bool b]] w (ReadGave w P A cap (s.text n) 0 (s.textB n)) := by
  have hm : mayB 4 n = true := decide_eq_true (by omega)
  have HM := Lib.hid (fun W => hm ▸ maybe_any 4 n b W)
  clear hm
  have hPw := h.lt
  have h2 := (h.alloc (.cells #[.int .i64 4, .int .i64 n, .bool b] 68)).alloc (.cells #[.int .u64 0, .slice none 0 0] 70)
  have X0 := (Bk.new w 68 #[.int .i64 4, .int .i64 n, .bool b]).alloc (.cells #[.int .u64 0, .slice none 0 0] 70)
  have Y0 := Bk.new (w.alloc (.cells #[.int .i64 4, .int .i64 n, .bool b] 68)) 70 #[.int .u64 0, .slice none 0 0]
  rw [World.size_alloc] at Y0
  have hB2 : Below w.heap.size w ((w.alloc (.cells #[.int .i64 4, .int .i64 n, .bool b] 68)).alloc (.cells #[.int .u64 0, .slice none 0 0] 70)) := ((Below.refl _ _).alloc (Nat.le_refl _) _).alloc (by simp) _
  by_cases hf : (s.text n).fe = 0
  · have HF := Lib.hid hf
    clear hf
    go_enter Try.func37, Try.ntmps37
    go_wp2_with fail
    refine (HM.out _).mono ?_
    rintro e w1 ⟨rfl, hb1⟩
    have hB1 := hB2.trans (hb1.mono (by simp <;> omega))
    have h1 := h2.below hb1 h2.lt
    have X2 := (X0.below hb1).alloc (.cells #[.int .u64 0, .slice none 0 0] 70)
    have Y2 := (Y0.below hb1).alloc (.cells #[.int .u64 0, .slice none 0 0] 70)
    have P2 := Bk.new w1 70 #[.int .u64 0, .slice none 0 0]
    have x0 := X2.c 0 _ rfl
    have x1 := X2.c 1 _ rfl
    have x2 := X2.c 2 _ rfl
    have z1 : w.heap.size + 1 + 1 ≤ w1.heap.size := by have := hb1.size; simpa using this
    go_wp2_with fail
    refine (text_any (h1.alloc _) n hz0 hz1).mono ?_
    rintro e w2 ⟨v, rfl, hown, h3, g3⟩
    obtain ⟨A9, m9, c9, rfl, hm9, _, _, hr9⟩ := hown.sl
    have HM9 := Lib.hid hm9
    clear hm9 hr9
    have hown2 : Own8 w2 (w1.heap.size + 1) (.slice A9 m9 c9) (s.textB n) := by rw [World.size_alloc] at hown; exact hown
    clear hown
    have Y3 := Y2.grown g3 (by omega)
    have P3 := P2.grown g3 (by omega)
    have p0 := P3.c 0 _ rfl
    have p1 := P3.c 1 _ rfl
    have pz := P3.fz 1
    have hs2 : w1.heap.size + 1 ≤ w2.heap.size := by have := g3.size; simpa using this
    have g4 := gb_trans (gb_alloc (gb_below (World.grownBy.refl w (some P)) hB1 (Nat.le_refl _)) (.cells #[.int .u64 0, .slice none 0 0] 70)) g3
    have h4 := h3.far (p := ⟨w1.heap.size, 1, none⟩) (by simp; omega) (.slice A9 m9 c9)
    have Y4 := Y3.far (p := ⟨w1.heap.size, 1, none⟩) (by simp; omega) (.slice A9 m9 c9)
    have P4 := P3.set 1 (.slice A9 m9 c9)
    have q0 := P4.c 0 _ rfl
    have q1 := P4.c 1 _ rfl
    have y0 := Y4.c 0 _ rfl
    have y1 := Y4.c 1 _ rfl
    have yz0 := Y4.fz 0
    have yz1 := Y4.fz 1
    have g5 := gb_far g4 (p := ⟨w1.heap.size, 1, none⟩) (by simp; omega) (.slice A9 m9 c9)
    go_wp2_with fail
    refine (goon_no h4 HF.out).mono ?_
    rintro e w3 ⟨rfl, rfl⟩
    go_wp2_with fail
    have Y5 := (Y4.set 0 (.int .u64 0)).set 1 (.slice A9 m9 c9)
    have h5 := (h4.far (p := ⟨w.heap.size + 1, 0, none⟩) (by simp; omega) (.int .u64 0)).far (p := ⟨w.heap.size + 1, 1, none⟩) (by simp; omega) (.slice A9 m9 c9)
    have g6 := gb_far (gb_far g5 (p := ⟨w.heap.size + 1, 0, none⟩) (by simp) (.int .u64 0)) (p := ⟨w.heap.size + 1, 1, none⟩) (by simp) (.slice A9 m9 c9)
    refine bodyPost_ret (v := .agg #[.int .u64 0, .slice A9 m9 c9]) (rres1 rfl _ _ (w.heap.size + 1) rfl Y5) rfl ⟨h5, g6, ?_⟩
    rw [if_pos HF.out]
    exact ⟨_, rfl, ((hown2.low (b := w1.heap.size) (gb_set (World.grownBy.refl _ _) 1 _) (by omega)).low (b := w.heap.size + 1) (gb_set (gb_set (World.grownBy.refl _ _) 0 _) 1 _) (by omega)).base_le (by omega)⟩
  · have HF := Lib.hid hf
    clear hf
    go_enter Try.func37, Try.ntmps37
    go_wp2_with fail
    refine (HM.out _).mono ?_
    rintro e w1 ⟨rfl, hb1⟩
    have hB1 := hB2.trans (hb1.mono (by simp <;> omega))
    have h1 := h2.below hb1 h2.lt
    have X2 := (X0.below hb1).alloc (.cells #[.int .u64 0, .slice none 0 0] 70)
    have Y2 := (Y0.below hb1).alloc (.cells #[.int .u64 0, .slice none 0 0] 70)
    have P2 := Bk.new w1 70 #[.int .u64 0, .slice none 0 0]
    have x0 := X2.c 0 _ rfl
    have x1 := X2.c 1 _ rfl
    have x2 := X2.c 2 _ rfl
    have z1 : w.heap.size + 1 + 1 ≤ w1.heap.size := by have := hb1.size; simpa using this
    go_wp2_with fail
    refine (text_any (h1.alloc _) n hz0 hz1).mono ?_
    rintro e w2 ⟨v, rfl, hown, h3, g3⟩
    obtain ⟨A9, m9, c9, rfl, hm9, _, _, hr9⟩ := hown.sl
    have HM9 := Lib.hid hm9
    clear hm9 hr9
    have hown2 : Own8 w2 (w1.heap.size + 1) (.slice A9 m9 c9) (s.textB n) := by rw [World.size_alloc] at hown; exact hown
    clear hown
    have Y3 := Y2.grown g3 (by omega)
    have P3 := P2.grown g3 (by omega)
    have p0 := P3.c 0 _ rfl
    have p1 := P3.c 1 _ rfl
    have pz := P3.fz 1
    have hs2 : w1.heap.size + 1 ≤ w2.heap.size := by have := g3.size; simpa using this
    have g4 := gb_trans (gb_alloc (gb_below (World.grownBy.refl w (some P)) hB1 (Nat.le_refl _)) (.cells #[.int .u64 0, .slice none 0 0] 70)) g3
    have h4 := h3.far (p := ⟨w1.heap.size, 1, none⟩) (by simp; omega) (.slice A9 m9 c9)
    have Y4 := Y3.far (p := ⟨w1.heap.size, 1, none⟩) (by simp; omega) (.slice A9 m9 c9)
    have P4 := P3.set 1 (.slice A9 m9 c9)
    have q0 := P4.c 0 _ rfl
    have q1 := P4.c 1 _ rfl
    have y0 := Y4.c 0 _ rfl
    have y1 := Y4.c 1 _ rfl
    have yz0 := Y4.fz 0
    have yz1 := Y4.fz 1
    have g5 := gb_far g4 (p := ⟨w1.heap.size, 1, none⟩) (by simp; omega) (.slice A9 m9 c9)
    go_wp2_with fail
    refine (goon_yes h4 HF.out).mono ?_
    rintro e w3 ⟨rfl, rfl⟩
    refine ⟨rfl, h4, g5, ?_⟩
    rw [if_neg HF.out]


/-- Each item that may be. -/
theorem read_any {w : World} {P : Nat} {A : Option Addr} {cap : Nat} {s : RS} (h : Rdr w P A cap s) (x : It) (hx : mayB x.k x.n = true) (hz1 : x.n ≤ 9223372036854775807) :
    Calls Try.prog 37 #[.pointer (some ⟨P, 0, none⟩), .agg #[.int .i64 x.k, .int .i64 x.n, .bool x.b]] w (ReadGave w P A cap (itS s x) (itN s x) (itBs s x)) := by
  obtain ⟨k, n, b⟩ := x
  change mayB k n = true at hx
  change n ≤ _ at hz1
  rcases mayB_yes hx with ⟨rfl, h1, h8⟩ | rfl | ⟨rfl, h0⟩ | ⟨rfl, h0⟩
  · exact read_num h n ⟨h1, h8⟩ b
  · exact read_var h n b
  · exact read_take h n h0 b
  · exact read_text h n h0 (by omega) hz1 b

theorem RS.num_bad {s : RS} (h : s.fe ≠ 0) (z : Int) : s.num z = s := by
  unfold RS.num
  split
  · exact RS.next_yes h _
  · exact RS.fail_yes h _
theorem RS.take_bad {s : RS} (h : s.fe ≠ 0) (z : Int) : s.take z = s := by
  unfold RS.take
  split
  · exact RS.fail_yes h _
  · exact RS.next_yes h _
theorem RS.text_fe {s : RS} (h : s.fe ≠ 0) (z : Int) : s.text z = s := by
  have h2 := (RS.look_2 h).1
  rw [(RS.text_bad (by rw [h2]; exact h) z).1, h2]

/-- What read comes to, of an item that may not be. -/
def ReadArg (w : World) (P : Nat) (A : Option Addr) (cap : Nat) (s : RS) (e : Ending) (w' : World) : Prop :=
  Rdr w' P A cap (s.fail 1) ∧ w.grownBy w' (some P) ∧ e = .panicked (gave s.at_ 1)

set_option maxRecDepth 100000 in
set_option maxHeartbeats 2000000 in
theorem read_arg1 {w : World} {P : Nat} {A : Option Addr} {cap : Nat} {s : RS} (h : Rdr w P A cap s) (hs : s.fe = 0) (n : Int) (_hz0 : -9223372036854775808 ≤ n) (_hz1 : n ≤ 9223372036854775807) (b : Bool) (hm : mayB 1 n = false) :
    Calls Try.prog 37 #[.pointer (some ⟨P, 0, none⟩), .agg #[.int .i64 1, .int .i64 n, .bool b]] w (ReadArg w P A cap s) := by
  have HM := Lib.hid (fun W => hm ▸ maybe_any 1 n b W)
  have HF := Lib.hid (RS.fail_fe (s := s) (show (1 : Nat) ≠ 0 by decide))
  have HN := Lib.hid (RS.fail_no hs 1)
  clear hm hs
  have hPw := h.lt
  have h2 := (h.alloc (.cells #[.int .i64 1, .int .i64 n, .bool b] 68)).alloc (.cells #[.int .u64 0, .slice none 0 0] 70)
  have X0 := (Bk.new w 68 #[.int .i64 1, .int .i64 n, .bool b]).alloc (.cells #[.int .u64 0, .slice none 0 0] 70)
  have hB2 : Below w.heap.size w ((w.alloc (.cells #[.int .i64 1, .int .i64 n, .bool b] 68)).alloc (.cells #[.int .u64 0, .slice none 0 0] 70)) := ((Below.refl _ _).alloc (Nat.le_refl _) _).alloc (by simp) _
  go_enter Try.func37, Try.ntmps37
  go_wp2_with fail
  refine (HM.out _).mono ?_
  rintro e w0 ⟨rfl, hb1⟩
  have hB1 := hB2.trans (hb1.mono (by simp <;> omega))
  have z1 : w.heap.size + 1 + 1 ≤ w0.heap.size := by have := hb1.size; simpa using this
  have h0 := h2.below hb1 h2.lt
  go_wp2_with fail
  refine (fail_any h0 1).mono ?_
  rintro e w1 ⟨rfl, h1, g1⟩
  have hs1 := g1.size
  have X2 := ((X0.below hb1).grown g1 (by omega)).alloc (.cells #[.int .u64 0, .slice none 0 0] 70)
  have P2 := Bk.new w1 70 #[.int .u64 0, .slice none 0 0]
  have x0 := X2.c 0 _ rfl
  have x1 := X2.c 1 _ rfl
  have x2 := X2.c 2 _ rfl
  have g2 := gb_alloc (gb_trans (gb_below (World.grownBy.refl w (some P)) hB1 (Nat.le_refl _)) g1) (.cells #[.int .u64 0, .slice none 0 0] 70)
  go_wp2_with fail
  refine (num_any (h1.alloc _) n b).mono ?_
  rintro e w2 ⟨rfl, h3, g3⟩
  rw [RS.num_bad HF.out] at h3
  have P3 := P2.grown g3 (by omega)
  have p0 := P3.c 0 _ rfl
  have p1 := P3.c 1 _ rfl
  have pz := P3.fz 0
  have h4 := h3.far (p := ⟨w1.heap.size, 0, none⟩) (by simp; omega) (.int .u64 (((s.fail 1).numN n b : Nat) : Int))
  have g5 := gb_far (gb_trans g2 g3) (p := ⟨w1.heap.size, 0, none⟩) (by simp; omega) (.int .u64 (((s.fail 1).numN n b : Nat) : Int))
  go_wp2_with fail
  refine (goon_yes h4 HF.out).mono ?_
  rintro e w3 ⟨rfl, rfl⟩
  refine ⟨rfl, h4, g5, ?_⟩
  rw [HN.out]

set_option maxRecDepth 100000 in
set_option maxHeartbeats 2000000 in
theorem read_arg3 {w : World} {P : Nat} {A : Option Addr} {cap : Nat} {s : RS} (h : Rdr w P A cap s) (hs : s.fe = 0) (n : Int) (_hz0 : -9223372036854775808 ≤ n) (_hz1 : n ≤ 9223372036854775807) (b : Bool) (hm : mayB 3 n = false) :
    Calls Try.prog 37 #[.pointer (some ⟨P, 0, none⟩), .agg #[.int .i64 3, .int .i64 n, .bool b]] w (ReadArg w P A cap s) := by
  have HM := Lib.hid (fun W => hm ▸ maybe_any 3 n b W)
  have HF := Lib.hid (RS.fail_fe (s := s) (show (1 : Nat) ≠ 0 by decide))
  have HN := Lib.hid (RS.fail_no hs 1)
  clear hm hs
  have hPw := h.lt
  have h2 := (h.alloc (.cells #[.int .i64 3, .int .i64 n, .bool b] 68)).alloc (.cells #[.int .u64 0, .slice none 0 0] 70)
  have X0 := (Bk.new w 68 #[.int .i64 3, .int .i64 n, .bool b]).alloc (.cells #[.int .u64 0, .slice none 0 0] 70)
  have hB2 : Below w.heap.size w ((w.alloc (.cells #[.int .i64 3, .int .i64 n, .bool b] 68)).alloc (.cells #[.int .u64 0, .slice none 0 0] 70)) := ((Below.refl _ _).alloc (Nat.le_refl _) _).alloc (by simp) _
  go_enter Try.func37, Try.ntmps37
  go_wp2_with fail
  refine (HM.out _).mono ?_
  rintro e w0 ⟨rfl, hb1⟩
  have hB1 := hB2.trans (hb1.mono (by simp <;> omega))
  have z1 : w.heap.size + 1 + 1 ≤ w0.heap.size := by have := hb1.size; simpa using this
  have h0 := h2.below hb1 h2.lt
  go_wp2_with fail
  refine (fail_any h0 1).mono ?_
  rintro e w1 ⟨rfl, h1, g1⟩
  have hs1 := g1.size
  have X2 := ((X0.below hb1).grown g1 (by omega)).alloc (.cells #[.int .u64 0, .slice none 0 0] 70)
  have P2 := Bk.new w1 70 #[.int .u64 0, .slice none 0 0]
  have x0 := X2.c 0 _ rfl
  have x1 := X2.c 1 _ rfl
  have x2 := X2.c 2 _ rfl
  have g2 := gb_alloc (gb_trans (gb_below (World.grownBy.refl w (some P)) hB1 (Nat.le_refl _)) g1) (.cells #[.int .u64 0, .slice none 0 0] 70)
  go_wp2_with fail
  refine (take_any (h1.alloc _) n).mono ?_
  rintro e w2 ⟨v, rfl, hown, h3, g3⟩
  obtain ⟨A9, m9, c9, rfl, hm9, _, _, hr9⟩ := hown.sl
  have HM9 := Lib.hid hm9
  clear hm9 hr9
  rw [RS.take_bad HF.out] at h3
  have P3 := P2.grown g3 (by omega)
  have p0 := P3.c 0 _ rfl
  have p1 := P3.c 1 _ rfl
  have pz := P3.fz 1
  have h4 := h3.far (p := ⟨w1.heap.size, 1, none⟩) (by simp; omega) (.slice A9 m9 c9)
  have g5 := gb_far (gb_trans g2 g3) (p := ⟨w1.heap.size, 1, none⟩) (by simp; omega) (.slice A9 m9 c9)
  go_wp2_with fail
  refine (goon_yes h4 HF.out).mono ?_
  rintro e w3 ⟨rfl, rfl⟩
  refine ⟨rfl, h4, g5, ?_⟩
  rw [HN.out]

set_option maxRecDepth 100000 in
set_option maxHeartbeats 2000000 in
theorem read_arg4 {w : World} {P : Nat} {A : Option Addr} {cap : Nat} {s : RS} (h : Rdr w P A cap s) (hs : s.fe = 0) (n : Int) (hz0 : -9223372036854775808 ≤ n) (hz1 : n ≤ 9223372036854775807) (b : Bool) (hm : mayB 4 n = false) :
    Calls Try.prog 37 #[.pointer (some ⟨P, 0, none⟩), .agg #[.int .i64 4, .int .i64 n, .bool b]] w (ReadArg w P A cap s) := by
  have HM := Lib.hid (fun W => hm ▸ maybe_any 4 n b W)
  have HF := Lib.hid (RS.fail_fe (s := s) (show (1 : Nat) ≠ 0 by decide))
  have HN := Lib.hid (RS.fail_no hs 1)
  clear hm hs
  have hPw := h.lt
  have h2 := (h.alloc (.cells #[.int .i64 4, .int .i64 n, .bool b] 68)).alloc (.cells #[.int .u64 0, .slice none 0 0] 70)
  have X0 := (Bk.new w 68 #[.int .i64 4, .int .i64 n, .bool b]).alloc (.cells #[.int .u64 0, .slice none 0 0] 70)
  have hB2 : Below w.heap.size w ((w.alloc (.cells #[.int .i64 4, .int .i64 n, .bool b] 68)).alloc (.cells #[.int .u64 0, .slice none 0 0] 70)) := ((Below.refl _ _).alloc (Nat.le_refl _) _).alloc (by simp) _
  go_enter Try.func37, Try.ntmps37
  go_wp2_with fail
  refine (HM.out _).mono ?_
  rintro e w0 ⟨rfl, hb1⟩
  have hB1 := hB2.trans (hb1.mono (by simp <;> omega))
  have z1 : w.heap.size + 1 + 1 ≤ w0.heap.size := by have := hb1.size; simpa using this
  have h0 := h2.below hb1 h2.lt
  go_wp2_with fail
  refine (fail_any h0 1).mono ?_
  rintro e w1 ⟨rfl, h1, g1⟩
  have hs1 := g1.size
  have X2 := ((X0.below hb1).grown g1 (by omega)).alloc (.cells #[.int .u64 0, .slice none 0 0] 70)
  have P2 := Bk.new w1 70 #[.int .u64 0, .slice none 0 0]
  have x0 := X2.c 0 _ rfl
  have x1 := X2.c 1 _ rfl
  have x2 := X2.c 2 _ rfl
  have g2 := gb_alloc (gb_trans (gb_below (World.grownBy.refl w (some P)) hB1 (Nat.le_refl _)) g1) (.cells #[.int .u64 0, .slice none 0 0] 70)
  go_wp2_with fail
  refine (text_any (h1.alloc _) n hz0 hz1).mono ?_
  rintro e w2 ⟨v, rfl, hown, h3, g3⟩
  obtain ⟨A9, m9, c9, rfl, hm9, _, _, hr9⟩ := hown.sl
  have HM9 := Lib.hid hm9
  clear hm9 hr9
  rw [RS.text_fe HF.out] at h3
  have P3 := P2.grown g3 (by omega)
  have p0 := P3.c 0 _ rfl
  have p1 := P3.c 1 _ rfl
  have pz := P3.fz 1
  have h4 := h3.far (p := ⟨w1.heap.size, 1, none⟩) (by simp; omega) (.slice A9 m9 c9)
  have g5 := gb_far (gb_trans g2 g3) (p := ⟨w1.heap.size, 1, none⟩) (by simp; omega) (.slice A9 m9 c9)
  go_wp2_with fail
  refine (goon_yes h4 HF.out).mono ?_
  rintro e w3 ⟨rfl, rfl⟩
  refine ⟨rfl, h4, g5, ?_⟩
  rw [HN.out]

set_option maxRecDepth 100000 in
set_option maxHeartbeats 2000000 in
theorem read_arg0 {w : World} {P : Nat} {A : Option Addr} {cap : Nat} {s : RS} (h : Rdr w P A cap s) (hs : s.fe = 0) (k : Int) (k1 : k ≠ 1) (k2 : k ≠ 2) (k3 : k ≠ 3) (k4 : k ≠ 4) (n : Int) (_hz0 : -9223372036854775808 ≤ n) (_hz1 : n ≤ 9223372036854775807) (b : Bool) (hm : mayB k n = false) :
    Calls Try.prog 37 #[.pointer (some ⟨P, 0, none⟩), .agg #[.int .i64 k, .int .i64 n, .bool b]] w (ReadArg w P A cap s) := by
  have HM := Lib.hid (fun W => hm ▸ maybe_any k n b W)
  have HF := Lib.hid (RS.fail_fe (s := s) (show (1 : Nat) ≠ 0 by decide))
  have HN := Lib.hid (RS.fail_no hs 1)
  have b1 : (k == 1) = false := beq_eq_false_iff_ne.2 k1
  have b2 : (k == 2) = false := beq_eq_false_iff_ne.2 k2
  have b3 : (k == 3) = false := beq_eq_false_iff_ne.2 k3
  have b4 : (k == 4) = false := beq_eq_false_iff_ne.2 k4
  clear k1 k2 k3 k4
  clear hm hs
  have hPw := h.lt
  have h2 := (h.alloc (.cells #[.int .i64 k, .int .i64 n, .bool b] 68)).alloc (.cells #[.int .u64 0, .slice none 0 0] 70)
  have X0 := (Bk.new w 68 #[.int .i64 k, .int .i64 n, .bool b]).alloc (.cells #[.int .u64 0, .slice none 0 0] 70)
  have hB2 : Below w.heap.size w ((w.alloc (.cells #[.int .i64 k, .int .i64 n, .bool b] 68)).alloc (.cells #[.int .u64 0, .slice none 0 0] 70)) := ((Below.refl _ _).alloc (Nat.le_refl _) _).alloc (by simp) _
  go_enter Try.func37, Try.ntmps37
  go_wp2_with fail
  refine (HM.out _).mono ?_
  rintro e w0 ⟨rfl, hb1⟩
  have hB1 := hB2.trans (hb1.mono (by simp <;> omega))
  have z1 : w.heap.size + 1 + 1 ≤ w0.heap.size := by have := hb1.size; simpa using this
  have h0 := h2.below hb1 h2.lt
  go_wp2_with fail
  refine (fail_any h0 1).mono ?_
  rintro e w1 ⟨rfl, h1, g1⟩
  have hs1 := g1.size
  have X2 := ((X0.below hb1).grown g1 (by omega)).alloc (.cells #[.int .u64 0, .slice none 0 0] 70)
  have P2 := Bk.new w1 70 #[.int .u64 0, .slice none 0 0]
  have x0 := X2.c 0 _ rfl
  have x1 := X2.c 1 _ rfl
  have x2 := X2.c 2 _ rfl
  have g2 := gb_alloc (gb_trans (gb_below (World.grownBy.refl w (some P)) hB1 (Nat.le_refl _)) g1) (.cells #[.int .u64 0, .slice none 0 0] 70)
  go_wp2_with fail
  have h4 := h1.alloc (.cells #[.int .u64 0, .slice none 0 0] 70)
  have g5 := g2
  refine (goon_yes h4 HF.out).mono ?_
  rintro e w3 ⟨rfl, rfl⟩
  refine ⟨rfl, h4, g5, ?_⟩
  rw [HN.out]

/-- Each item that may not be. -/
theorem read_arg {w : World} {P : Nat} {A : Option Addr} {cap : Nat} {s : RS} (h : Rdr w P A cap s) (hs : s.fe = 0) (x : It) (hx : mayB x.k x.n = false) (hz0 : -9223372036854775808 ≤ x.n) (hz1 : x.n ≤ 9223372036854775807) :
    Calls Try.prog 37 #[.pointer (some ⟨P, 0, none⟩), .agg #[.int .i64 x.k, .int .i64 x.n, .bool x.b]] w (ReadArg w P A cap s) := by
  obtain ⟨k, n, b⟩ := x
  change mayB k n = false at hx
  by_cases h1 : k = 1
  · subst h1; exact read_arg1 h hs n hz0 hz1 b hx
  · by_cases h3 : k = 3
    · subst h3; exact read_arg3 h hs n hz0 hz1 b hx
    · by_cases h4 : k = 4
      · subst h4; exact read_arg4 h hs n hz0 hz1 b hx
      · by_cases h2 : k = 2
        · subst h2; exact absurd (of_decide_eq_false hx) (by omega)
        · exact read_arg0 h hs k h1 h2 h3 h4 n hz0 hz1 b hx
end Go.Proofs.Ytghocjigmcdobaa
