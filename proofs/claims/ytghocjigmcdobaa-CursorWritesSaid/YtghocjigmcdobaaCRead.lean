/-
  The contracts of cursor.goOn and cursor.read: a piece is read, or a panic gives up.
-/
import Derived.Test.YtghocjigmcdobaaCLay2
import Derived.WalkLawsBesides
namespace Go.Proofs.Ytghocjigmcdobaa
open Go.RowKit Go.Lib

set_option maxHeartbeats 400000 in
theorem goon_no {w : World} {P : Nat} {A : Option Addr} {cap : Nat} {s : RS} (h : Rdr w P A cap s) (hf : s.fe = 0) :
    Calls Try.prog 38 #[.pointer (some ⟨P, 0, none⟩)] w fun e w' => e = .returned (.tuple #[]) ∧ w = w' := by
  have HF := Lib.hid hf
  clear hf
  go_enter Try.func38, Try.ntmps38
  go_wp2_with fail
  refine (failed_no h HF.out).mono ?_
  rintro e w1 ⟨rfl, rfl⟩
  go_wp2_with fail
  go_end0
  exact ⟨rfl, rfl⟩

/-- The panic with which the inner reading gives up. -/
def gave (a e : Nat) : List PanicEntry := [{ v := .iface 71 (.agg #[.int .i64 (a : Int), .int .i64 (e : Int)]), recovered := false }]

set_option maxHeartbeats 400000 in
theorem goon_yes {w : World} {P : Nat} {A : Option Addr} {cap : Nat} {s : RS} (h : Rdr w P A cap s) (hf : s.fe ≠ 0) :
    Calls Try.prog 38 #[.pointer (some ⟨P, 0, none⟩)] w fun e w' => e = .panicked (gave s.fa s.fe) ∧ w = w' := by
  have HF := Lib.hid hf
  clear hf
  have c2 := h.c2
  have c3 := h.c3
  go_enter Try.func38, Try.ntmps38
  go_wp2_with fail
  refine (failed_yes h HF.out).mono ?_
  rintro e w1 ⟨rfl, rfl⟩
  go_wp2_with fail
  exact ⟨rfl, rfl, rfl⟩

/-- A block whose cells are known. -/
def Bk (w : World) (b : Nat) (t : TypeId) (cs : Array Value) : Prop := w.heap[b]? = some (.cells cs t (0, 0))
section
variable {w w' : World} {b : Nat} {t : TypeId} {cs : Array Value}
theorem Bk.c (h : Bk w b t cs) (i : Nat) (v : Value) (hv : cs[i]? = some v) : w.cell? ⟨b, i, none⟩ = some v := by rw [cell_of_row w b i _ _ (0, 0) h]; exact hv
theorem Bk.fz (h : Bk w b t cs) (i : Nat) : w.frozen? ⟨b, i, none⟩ = false := by unfold Bk at h; simp [World.frozen?, h]
theorem Bk.lt (h : Bk w b t cs) : b < w.heap.size := (Array.getElem?_eq_some_iff.1 h).1
theorem Bk.alloc (h : Bk w b t cs) (o : Obj) : Bk (w.alloc o) b t cs := (Below.heap_alloc w o b h.lt).trans h
theorem Bk.new (w : World) (t : TypeId) (cs : Array Value) : Bk (w.alloc (.cells cs t)) w.heap.size t cs := heap_alloc_new w _
theorem Bk.below (h : Bk w b t cs) (hb : Below w.heap.size w w') : Bk w' b t cs := (hb.block b h.lt).trans h
theorem Bk.grown (h : Bk w b t cs) {P : Nat} (hg : w.grownBy w' (some P)) (hr : b ≠ P) : Bk w' b t cs := (hg.block b h.lt (fun e => hr (by cases e; rfl))).trans h
theorem Bk.set (h : Bk w b t cs) (i : Nat) (u : Value) : Bk (w.setCell ⟨b, i, none⟩ u) b t (cs.setIfInBounds i u) := heap_set h u
theorem Bk.far (h : Bk w b t cs) {p : Addr} (hp : b ≠ p.block) (u : Value) : Bk (w.setCell p u) b t cs := (Below.heap_setCell w p u b hp).trans h
end

/-- What an item comes to at a reader. -/
def itS (s : RS) (x : It) : RS := if x.k = 1 then s.num x.n else if x.k = 2 then s.look.next s.lookK else if x.k = 3 then s.take x.n else s.text x.n
def itN (s : RS) (x : It) : Nat := if x.k = 1 then s.numN x.n x.b else if x.k = 2 then s.lookN else 0
def itBs (s : RS) (x : It) : List UInt8 := if x.k = 3 then s.takeB x.n else if x.k = 4 then s.textB x.n else []

/-- What read answers, where the item may be. -/
def ReadGave (w : World) (P : Nat) (A : Option Addr) (cap : Nat) (s : RS) (n : Nat) (bs : List UInt8) (e : Ending) (w' : World) : Prop :=
  Rdr w' P A cap s ∧ w.grownBy w' (some P) ∧ if s.fe = 0 then ∃ v, e = .returned (.agg #[.int .u64 (n : Int), v]) ∧ Own8 w' w.heap.size v bs else e = .panicked (gave s.fa s.fe)

theorem Rdr.far {w : World} {P : Nat} {A : Option Addr} {cap : Nat} {s : RS} (h : Rdr w P A cap s) {p : Addr} (hp : P < p.block) (u : Value) : Rdr (w.setCell p u) P A cap s :=
  ⟨(Below.heap_setCell w p u P (by omega)).trans h.blk, h.rd.setCell (by omega) u, h.le, h.few, h.room, h.most⟩
theorem gb_far {a w : World} {row : Option Nat} (h : a.grownBy w row) {p : Addr} (hp : a.heap.size ≤ p.block) (u : Value) : a.grownBy (w.setCell p u) row :=
  ⟨h.os, h.tape, h.output, by simpa [World.setCell] using h.size, fun k hk hne => (Below.heap_setCell w p u k (by omega)).trans (h.block k hk hne)⟩
/-- A struct of two cells as the one result. -/
theorem rres1 {fn : Func} (h : fn.results = #[.cell 4 70]) (tmps : Array Value) (w : World) (b : Nat) (hp : tmps.getD 4 undef = .pointer (some ⟨b, 0, none⟩)) {v0 v1 : Value} (hb : Bk w b 70 #[v0, v1]) :
    (results fn tmps).run Try.prog w = .ok (.agg #[v0, v1]) w := by
  have c0 := hb.c 0 _ rfl
  have c1 := hb.c 1 _ rfl
  have hp' : tmps[4]?.getD undef = .pointer (some ⟨b, 0, none⟩) := by simpa using hp
  simp [results, h, hp', go_sem, c0, c1]

set_option maxRecDepth 100000 in
set_option maxHeartbeats 2000000 in
theorem read_num {w : World} {P : Nat} {A : Option Addr} {cap : Nat} {s : RS} (h : Rdr w P A cap s) (n : Int) (hn : 1 ≤ n ∧ n ≤ 8) (b : Bool) :
    Calls Try.prog 37 #[.pointer (some ⟨P, 0, none⟩), .agg #[.int .i64 1, .int .i64 n, .bool b]] w (ReadGave w P A cap (s.num n) (s.numN n b) []) := by
  have hm : mayB 1 n = true := decide_eq_true (by omega)
  have HM := Lib.hid (fun W => hm ▸ maybe_any 1 n b W)
  clear hm
  have hPw := h.lt
  have h2 := (h.alloc (.cells #[.int .i64 1, .int .i64 n, .bool b] 68)).alloc (.cells #[.int .u64 0, .slice none 0 0] 70)
  have X0 := (Bk.new w 68 #[.int .i64 1, .int .i64 n, .bool b]).alloc (.cells #[.int .u64 0, .slice none 0 0] 70)
  have Y0 := Bk.new (w.alloc (.cells #[.int .i64 1, .int .i64 n, .bool b] 68)) 70 #[.int .u64 0, .slice none 0 0]
  rw [World.size_alloc] at Y0
  have hB2 : Below w.heap.size w ((w.alloc (.cells #[.int .i64 1, .int .i64 n, .bool b] 68)).alloc (.cells #[.int .u64 0, .slice none 0 0] 70)) := ((Below.refl _ _).alloc (Nat.le_refl _) _).alloc (by simp) _
  by_cases hf : (s.num n).fe = 0
  · have HF := Lib.hid hf
    clear hf
    go_enter Try.func37, Try.ntmps37
    go_wp2_with fail
    refine (HM.out _).mono ?_
    rintro e w1 ⟨rfl, hb1⟩
    have hB1 := hB2.trans (hb1.mono (by simp <;> omega))
    have h1 := h2.below hb1 h2.lt
    have X2 := (X0.below hb1).alloc (.cells #[.int .u64 0, .slice none 0 0] 70)
    have Y2 := (Y0.below hb1).alloc (.cells #[.int .u64 0, .slice none 0 0] 70)
    have P2 := Bk.new w1 70 #[.int .u64 0, .slice none 0 0]
    have x0 := X2.c 0 _ rfl
    have x1 := X2.c 1 _ rfl
    have x2 := X2.c 2 _ rfl
    have z1 : w.heap.size + 1 + 1 ≤ w1.heap.size := by have := hb1.size; simpa using this
    go_wp2_with fail
    refine (num_any (h1.alloc _) n b).mono ?_
    rintro e w2 ⟨rfl, h3, g3⟩
    have Y3 := Y2.grown g3 (by omega)
    have P3 := P2.grown g3 (by omega)
    have p0 := P3.c 0 _ rfl
    have p1 := P3.c 1 _ rfl
    have pz := P3.fz 0
    have hs2 : w1.heap.size + 1 ≤ w2.heap.size := by have := g3.size; simpa using this
    have g4 := gb_trans (gb_alloc (gb_below (World.grownBy.refl w (some P)) hB1 (Nat.le_refl _)) (.cells #[.int .u64 0, .slice none 0 0] 70)) g3
    have h4 := h3.far (p := ⟨w1.heap.size, 0, none⟩) (by simp; omega) (.int .u64 (((s.numN n b) : Nat) : Int))
    have Y4 := Y3.far (p := ⟨w1.heap.size, 0, none⟩) (by simp; omega) (.int .u64 (((s.numN n b) : Nat) : Int))
    have P4 := P3.set 0 (.int .u64 (((s.numN n b) : Nat) : Int))
    have q0 := P4.c 0 _ rfl
    have q1 := P4.c 1 _ rfl
    have y0 := Y4.c 0 _ rfl
    have y1 := Y4.c 1 _ rfl
    have yz0 := Y4.fz 0
    have yz1 := Y4.fz 1
    have g5 := gb_far g4 (p := ⟨w1.heap.size, 0, none⟩) (by simp; omega) (.int .u64 (((s.numN n b) : Nat) : Int))
    go_wp2_with fail
    refine (goon_no h4 HF.out).mono ?_
    rintro e w3 ⟨rfl, rfl⟩
    go_wp2_with fail
    have Y5 := (Y4.set 0 (.int .u64 ((((s.numN n b) : Nat) : Int)))).set 1 (.slice none 0 0)
    have h5 := (h4.far (p := ⟨w.heap.size + 1, 0, none⟩) (by simp; omega) (.int .u64 ((((s.numN n b) : Nat) : Int)))).far (p := ⟨w.heap.size + 1, 1, none⟩) (by simp; omega) (.slice none 0 0)
    have g6 := gb_far (gb_far g5 (p := ⟨w.heap.size + 1, 0, none⟩) (by simp) (.int .u64 ((((s.numN n b) : Nat) : Int)))) (p := ⟨w.heap.size + 1, 1, none⟩) (by simp) (.slice none 0 0)
    refine bodyPost_ret (v := .agg #[.int .u64 (((s.numN n b) : Nat) : Int), .slice none 0 0]) (rres1 rfl _ _ (w.heap.size + 1) rfl Y5) rfl ⟨h5, g6, ?_⟩
    rw [if_pos HF.out]
    exact ⟨_, rfl, Own8.nil_ _ _⟩
  · have HF := Lib.hid hf
    clear hf
    go_enter Try.func37, Try.ntmps37
    go_wp2_with fail
    refine (HM.out _).mono ?_
    rintro e w1 ⟨rfl, hb1⟩
    have hB1 := hB2.trans (hb1.mono (by simp <;> omega))
    have h1 := h2.below hb1 h2.lt
    have X2 := (X0.below hb1).alloc (.cells #[.int .u64 0, .slice none 0 0] 70)
    have Y2 := (Y0.below hb1).alloc (.cells #[.int .u64 0, .slice none 0 0] 70)
    have P2 := Bk.new w1 70 #[.int .u64 0, .slice none 0 0]
    have x0 := X2.c 0 _ rfl
    have x1 := X2.c 1 _ rfl
    have x2 := X2.c 2 _ rfl
    have z1 : w.heap.size + 1 + 1 ≤ w1.heap.size := by have := hb1.size; simpa using this
    go_wp2_with fail
    refine (num_any (h1.alloc _) n b).mono ?_
    rintro e w2 ⟨rfl, h3, g3⟩
    have Y3 := Y2.grown g3 (by omega)
    have P3 := P2.grown g3 (by omega)
    have p0 := P3.c 0 _ rfl
    have p1 := P3.c 1 _ rfl
    have pz := P3.fz 0
    have hs2 : w1.heap.size + 1 ≤ w2.heap.size := by have := g3.size; simpa using this
    have g4 := gb_trans (gb_alloc (gb_below (World.grownBy.refl w (some P)) hB1 (Nat.le_refl _)) (.cells #[.int .u64 0, .slice none 0 0] 70)) g3
    have h4 := h3.far (p := ⟨w1.heap.size, 0, none⟩) (by simp; omega) (.int .u64 (((s.numN n b) : Nat) : Int))
    have Y4 := Y3.far (p := ⟨w1.heap.size, 0, none⟩) (by simp; omega) (.int .u64 (((s.numN n b) : Nat) : Int))
    have P4 := P3.set 0 (.int .u64 (((s.numN n b) : Nat) : Int))
    have q0 := P4.c 0 _ rfl
    have q1 := P4.c 1 _ rfl
    have y0 := Y4.c 0 _ rfl
    have y1 := Y4.c 1 _ rfl
    have yz0 := Y4.fz 0
    have yz1 := Y4.fz 1
    have g5 := gb_far g4 (p := ⟨w1.heap.size, 0, none⟩) (by simp; omega) (.int .u64 (((s.numN n b) : Nat) : Int))
    go_wp2_with fail
    refine (goon_yes h4 HF.out).mono ?_
    rintro e w3 ⟨rfl, rfl⟩
    refine ⟨rfl, h4, g5, ?_⟩
    rw [if_neg HF.out]

set_option maxRecDepth 100000 in
set_option maxHeartbeats 2000000 in
theorem read_var {w : World} {P : Nat} {A : Option Addr} {cap : Nat} {s : RS} (h : Rdr w P A cap s) (n : Int) (b : Bool) :
    Calls Try.prog 37 #[.pointer (some ⟨P, 0, none⟩), .agg #[.int .i64 2, .int .i64 n, .bool b]] w (ReadGave w P A cap (s.look.next s.lookK) (s.lookN) []) := by
  have hm : mayB 2 n = true := decide_eq_true (by omega)
  have HM := Lib.hid (fun W => hm ▸ maybe_any 2 n b W)
  clear hm
  have hPw := h.lt
  have h2 := (h.alloc (.cells #[.int .i64 2, .int .i64 n, .bool b] 68)).alloc (.cells #[.int .u64 0, .slice none 0 0] 70)
  have X0 := (Bk.new w 68 #[.int .i64 2, .int .i64 n, .bool b]).alloc (.cells #[.int .u64 0, .slice none 0 0] 70)
  have Y0 := Bk.new (w.alloc (.cells #[.int .i64 2, .int .i64 n, .bool b] 68)) 70 #[.int .u64 0, .slice none 0 0]
  rw [World.size_alloc] at Y0
  have hB2 : Below w.heap.size w ((w.alloc (.cells #[.int .i64 2, .int .i64 n, .bool b] 68)).alloc (.cells #[.int .u64 0, .slice none 0 0] 70)) := ((Below.refl _ _).alloc (Nat.le_refl _) _).alloc (by simp) _
  by_cases hf : (s.look.next s.lookK).fe = 0
  · have HF := Lib.hid hf
    clear hf
    go_enter Try.func37, Try.ntmps37
    go_wp2_with fail
    refine (HM.out _).mono ?_
    rintro e w1 ⟨rfl, hb1⟩
    have hB1 := hB2.trans (hb1.mono (by simp <;> omega))
    have h1 := h2.below hb1 h2.lt
    have X2 := (X0.below hb1).alloc (.cells #[.int .u64 0, .slice none 0 0] 70)
    have Y2 := (Y0.below hb1).alloc (.cells #[.int .u64 0, .slice none 0 0] 70)
    have P2 := Bk.new w1 70 #[.int .u64 0, .slice none 0 0]
    have x0 := X2.c 0 _ rfl
    have x1 := X2.c 1 _ rfl
    have x2 := X2.c 2 _ rfl
    have z1 : w.heap.size + 1 + 1 ≤ w1.heap.size := by have := hb1.size; simpa using this
    go_wp2_with fail
    refine (var_any (h1.alloc _)).mono ?_
    rintro e w2 ⟨rfl, h3, g3⟩
    have Y3 := Y2.grown g3 (by omega)
    have P3 := P2.grown g3 (by omega)
    have p0 := P3.c 0 _ rfl
    have p1 := P3.c 1 _ rfl
    have pz := P3.fz 0
    have hs2 : w1.heap.size + 1 ≤ w2.heap.size := by have := g3.size; simpa using this
    have g4 := gb_trans (gb_alloc (gb_below (World.grownBy.refl w (some P)) hB1 (Nat.le_refl _)) (.cells #[.int .u64 0, .slice none 0 0] 70)) g3
    have h4 := h3.far (p := ⟨w1.heap.size, 0, none⟩) (by simp; omega) (.int .u64 (((s.lookN) : Nat) : Int))
    have Y4 := Y3.far (p := ⟨w1.heap.size, 0, none⟩) (by simp; omega) (.int .u64 (((s.lookN) : Nat) : Int))
    have P4 := P3.set 0 (.int .u64 (((s.lookN) : Nat) : Int))
    have q0 := P4.c 0 _ rfl
    have q1 := P4.c 1 _ rfl
    have y0 := Y4.c 0 _ rfl
    have y1 := Y4.c 1 _ rfl
    have yz0 := Y4.fz 0
    have yz1 := Y4.fz 1
    have g5 := gb_far g4 (p := ⟨w1.heap.size, 0, none⟩) (by simp; omega) (.int .u64 (((s.lookN) : Nat) : Int))
    go_wp2_with fail
    refine (goon_no h4 HF.out).mono ?_
    rintro e w3 ⟨rfl, rfl⟩
    go_wp2_with fail
    have Y5 := (Y4.set 0 (.int .u64 ((((s.lookN) : Nat) : Int)))).set 1 (.slice none 0 0)
    have h5 := (h4.far (p := ⟨w.heap.size + 1, 0, none⟩) (by simp; omega) (.int .u64 ((((s.lookN) : Nat) : Int)))).far (p := ⟨w.heap.size + 1, 1, none⟩) (by simp; omega) (.slice none 0 0)
    have g6 := gb_far (gb_far g5 (p := ⟨w.heap.size + 1, 0, none⟩) (by simp) (.int .u64 ((((s.lookN) : Nat) : Int)))) (p := ⟨w.heap.size + 1, 1, none⟩) (by simp) (.slice none 0 0)
    refine bodyPost_ret (v := .agg #[.int .u64 (((s.lookN) : Nat) : Int), .slice none 0 0]) (rres1 rfl _ _ (w.heap.size + 1) rfl Y5) rfl ⟨h5, g6, ?_⟩
    rw [if_pos HF.out]
    exact ⟨_, rfl, Own8.nil_ _ _⟩
  · have HF := Lib.hid hf
    clear hf
    go_enter Try.func37, Try.ntmps37
    go_wp2_with fail
    refine (HM.out _).mono ?_
    rintro e w1 ⟨rfl, hb1⟩
    have hB1 := hB2.trans (hb1.mono (by simp <;> omega))
    have h1 := h2.below hb1 h2.lt
    have X2 := (X0.below hb1).alloc (.cells #[.int .u64 0, .slice none 0 0] 70)
    have Y2 := (Y0.below hb1).alloc (.cells #[.int .u64 0, .slice none 0 0] 70)
    have P2 := Bk.new w1 70 #[.int .u64 0, .slice none 0 0]
    have x0 := X2.c 0 _ rfl
    have x1 := X2.c 1 _ rfl
    have x2 := X2.c 2 _ rfl
    have z1 : w.heap.size + 1 + 1 ≤ w1.heap.size := by have := hb1.size; simpa using this
    go_wp2_with fail
    refine (var_any (h1.alloc _)).mono ?_
    rintro e w2 ⟨rfl, h3, g3⟩
    have Y3 := Y2.grown g3 (by omega)
    have P3 := P2.grown g3 (by omega)
    have p0 := P3.c 0 _ rfl
    have p1 := P3.c 1 _ rfl
    have pz := P3.fz 0
    have hs2 : w1.heap.size + 1 ≤ w2.heap.size := by have := g3.size; simpa using this
    have g4 := gb_trans (gb_alloc (gb_below (World.grownBy.refl w (some P)) hB1 (Nat.le_refl _)) (.cells #[.int .u64 0, .slice none 0 0] 70)) g3
    have h4 := h3.far (p := ⟨w1.heap.size, 0, none⟩) (by simp; omega) (.int .u64 (((s.lookN) : Nat) : Int))
    have Y4 := Y3.far (p := ⟨w1.heap.size, 0, none⟩) (by simp; omega) (.int .u64 (((s.lookN) : Nat) : Int))
    have P4 := P3.set 0 (.int .u64 (((s.lookN) : Nat) : Int))
    have q0 := P4.c 0 _ rfl
    have q1 := P4.c 1 _ rfl
    have y0 := Y4.c 0 _ rfl
    have y1 := Y4.c 1 _ rfl
    have yz0 := Y4.fz 0
    have yz1 := Y4.fz 1
    have g5 := gb_far g4 (p := ⟨w1.heap.size, 0, none⟩) (by simp; omega) (.int .u64 (((s.lookN) : Nat) : Int))
    go_wp2_with fail
    refine (goon_yes h4 HF.out).mono ?_
    rintro e w3 ⟨rfl, rfl⟩
    refine ⟨rfl, h4, g5, ?_⟩
    rw [if_neg HF.out]

end Go.Proofs.Ytghocjigmcdobaa
