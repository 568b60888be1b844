/-
  Plain mathematics of stage 11: tuples, packets, how a frame is read. No program is walked here.
  Tuples and packets in memory: their cells; laws for whole loads and stores of them and of parts; put together; compared with themselves.
-/
import Derived.Test.YtfbiinipiklkaaaQ10
namespace Go.Proofs.Ytfbiinipiklkaaa
open Go.RowKit Go.Lib
/-- A tuple. -/
structure Tu where
  s : Ad
  d : Ad
  pr : Int
  sp : Int
  dp : Int
structure Tu.Ok (t : Tu) : Prop where
  s : t.s.b.length = 16
  d : t.d.b.length = 16
def Tu.zero : Tu := ⟨Ad.zero, Ad.zero, 0, 0, 0⟩
/-- A packet. -/
structure Pk where
  kind : Int
  t : Tu
  fl : Int
  net : Int
  sg : Int
  en : Int
def kindK (k : Int) : Pk := ⟨k, Tu.zero, 0, 0, 0, 0⟩
/-- What an IP header tells, of both families. -/
structure Nt where
  e : Nat
  head : Nat
  total : Nat
  frag : Bool
  proto : Nat
  s : Ad
  d : Ad
/-- What is told of a header without a fault. -/
structure Nt.Fits (n : Nt) (len : Nat) : Prop where
  s : n.s.b.length = 16
  d : n.d.b.length = 16
  h1 : n.head ≤ n.total
  h2 : n.total ≤ len
/-- The segment that an IP packet carries. -/
def segN (rest : List UInt8) (n : Nt) : List UInt8 := (rest.drop n.head).take (n.total - n.head)
/-- The packet, from its IP header on. -/
def behind (at_ : Nat) (rest : List UInt8) (n : Nt) : Pk :=
  if n.e ≠ 0 then kindK 3 else if n.frag = true then kindK 4 else if n.proto ≠ 6 ∧ n.proto ≠ 17 then kindK 5
  else if faultP (n.proto : Nat) (segN rest n) ≠ 0 then kindK 6
  else ⟨0, ⟨n.s, n.d, (n.proto : Nat), ((rdP (n.proto : Nat) (segN rest n)).s : Nat), ((rdP (n.proto : Nat) (segN rest n)).d : Nat)⟩, ((rdP (n.proto : Nat) (segN rest n)).f : Nat), (at_ : Nat), ((at_ + n.head : Nat) : Int), ((at_ + n.total : Nat) : Int)⟩
section
variable {at_ : Nat} {rest : List UInt8} {n : Nt}
end
end Go.Proofs.Ytfbiinipiklkaaa
namespace Go.Proofs.Ytfbiinipiklkaaa
open Go.RowKit Go.Lib
/-- The cells of a tuple, of a packet. -/
def tuE (t : Tu) : List Value := [.int .i64 t.pr, .int .i64 t.sp, .int .i64 t.dp]
def tuL (t : Tu) : List Value := adL t.s ++ (adL t.d ++ tuE t)
def tuC (t : Tu) : Value := .agg (tuL t).toArray
theorem tuL_len {t : Tu} (h : t.Ok) : (tuL t).length = 37 := by
  unfold tuL
  rw [List.length_append, List.length_append, adL_len h.s, adL_len h.d]
  rfl
theorem tuL_one (t : Tu) : ∀ v ∈ tuL t, v.oneCell' = true := by
  intro v hv
  unfold tuL tuE at hv
  rcases List.mem_append.1 hv with hv | hv
  · exact adL_one _ v hv
  · rcases List.mem_append.1 hv with hv | hv
    · exact adL_one _ v hv
    · simp only [List.mem_cons, List.not_mem_nil, or_false] at hv
      rcases hv with rfl | rfl | rfl <;> rfl
theorem sizeTu : (Try.prog.info? 26).map (·.size) = some 37 := by kernel_rfl
theorem sizeTuL {t : Tu} (h : t.Ok) : (Try.prog.info? 26).map (·.size) = some (tuL t).length := by rw [tuL_len h]; exact sizeTu
/-- A row of cells that is known whole, of any type: one block. -/
abbrev Blk (w : World) (T : TypeId) (g : Nat) (cs : List Value) : Prop := Blk_10 w T g cs
section
variable {w : World} {T : TypeId} {g : Nat} {t : Tu} {p : Pk}
theorem tu_src (h : Blk w T g (tuL t)) : w.rangeAt g 0 (adL t.s) := Blk_10.mid h (pre := []) (post := adL t.d ++ tuE t) rfl rfl
theorem tu_dst (h : Blk w T g (tuL t)) (ho : t.Ok) : w.rangeAt g 17 (adL t.d) := Blk_10.mid h (pre := adL t.s) (post := tuE t) rfl (adL_len ho.s)
theorem tu_six (h : Blk w T g (tuL t)) : w.cell? ⟨g, 0, none⟩ = some (.bool t.s.six) := Blk_10.cell h rfl
theorem tu_num (h : Blk w T g (tuL t)) (ho : t.Ok) : w.cell? ⟨g, 34, none⟩ = some (.int .i64 t.pr) ∧ w.cell? ⟨g, 35, none⟩ = some (.int .i64 t.sp) ∧ w.cell? ⟨g, 36, none⟩ = some (.int .i64 t.dp) := by
  have e : ∀ i, (tuL t)[34 + i]? = (tuE t)[i]? := by
    intro i
    unfold tuL
    rw [List.getElem?_append_right (by rw [adL_len ho.s]; omega), adL_len ho.s, List.getElem?_append_right (by rw [adL_len ho.d]; omega), adL_len ho.d]
    congr 1
    omega
  exact ⟨Blk_10.cell h (e 0), Blk_10.cell h (e 1), Blk_10.cell h (e 2)⟩
end
/-- A part of a block, whole: a law for the walk, guarded by yes or not guarded. -/
theorem wpList_loadM {w : World} {ops : Array Oper} {rest : List Oper} {op : Oper} {a : Act} {Q : Exit → Act → World → Prop} (T : TypeId) (x : Operand) (ho : op.op = .load T x) (hw : Region.wanted op (yielded ops a.tmps) = true)
    (g o : Nat) (hx : a.eval x = .pointer (some ⟨g, o, none⟩)) (cs : List Value) (hb : w.rangeAt g o cs) (d : TypeDesc) (hu : Try.prog.underlying T = some d) (hd : d.isRow = true) (hi : (Try.prog.info? T).map (·.size) = some cs.length)
    (hk : wpList Try.prog ops Q rest (a.put op.dst (.agg cs.toArray)) w) : wpList Try.prog ops Q (op :: rest) a w :=
  BigFrame.wpList_want hw fun _ hK => wp_load_mid T x ho g o hx cs d hb hu hd hi (hK _ _ hk)
/-- An address, a tuple out of a block. -/
theorem wpList_loadAd {w : World} {ops : Array Oper} {rest : List Oper} {op : Oper} {a : Act} {Q : Exit → Act → World → Prop} (x : Operand) (ho : op.op = .load 24 x) (hw : Region.wanted op (yielded ops a.tmps) = true)
    (g o : Nat) (hx : a.eval x = .pointer (some ⟨g, o, none⟩)) (A : Ad) (h : A.b.length = 16) (hb : w.rangeAt g o (adL A))
    (hk : wpList Try.prog ops Q rest (a.put op.dst (adC A)) w) : wpList Try.prog ops Q (op :: rest) a w :=
  wpList_loadM 24 x ho hw g o hx (adL A) hb _ Try.underlying24 rfl (sizeAdL h) hk
theorem wpList_loadTu {w : World} {ops : Array Oper} {rest : List Oper} {op : Oper} {a : Act} {Q : Exit → Act → World → Prop} (x : Operand) (ho : op.op = .load 26 x) (hw : Region.wanted op (yielded ops a.tmps) = true)
    (g o : Nat) (hx : a.eval x = .pointer (some ⟨g, o, none⟩)) (t : Tu) (h : t.Ok) (hb : w.rangeAt g o (tuL t))
    (hk : wpList Try.prog ops Q rest (a.put op.dst (tuC t)) w) : wpList Try.prog ops Q (op :: rest) a w :=
  wpList_loadM 26 x ho hw g o hx (tuL t) hb _ Try.underlying26 rfl (sizeTuL h) hk
/-- A whole value is stored into a cell that was just laid. -/
theorem wpList_storeNewG {arr : Array Value} {w : World} {ops : Array Oper} {rest : List Oper} {op : Oper} {a : Act} {Q : Exit → Act → World → Prop} (hgd : op.guard = none) (T : TypeId) (x y : Operand) (ho : op.op = .store T x y)
    (hx : a.eval x = .pointer (some ⟨w.heap.size, 0, none⟩)) (cs : List Value) (hy : a.eval y = .agg cs.toArray) (hl : arr.size = cs.length) (hi : (Try.prog.info? T).map (·.size) = some cs.length) (h1 : ∀ v ∈ cs, v.oneCell' = true)
    (h : ∀ w', Blk w' T w.heap.size cs → Below w.heap.size w w' → w'.heap.size = w.heap.size + 1 → wpList Try.prog ops Q rest (a.put op.dst undef) w') :
    wpList Try.prog ops Q (op :: rest) a (w.alloc (.cells arr T)) := by
  have hb := Blk_10.new w T arr.toList
  rw [Array.toArray_toList] at hb
  refine wpList_storeR_10 hgd T x y ho w.heap.size hx cs hy arr.toList hb (by rw [Array.length_toList]; exact hl) hi h1 ?_
  refine h _ (hb.setRow_ _) (below_setRow ((Below.refl _ _).alloc (Nat.le_refl _) _) (Nat.le_refl _) _) ?_
  rw [World.setRow]; simp
/-- The result of one tuple, one packet in a cell. -/
theorem results_tu {fn : Func} {p : Tmp} (hr : fn.results = #[.cell p 26]) (tmps : Array Value) (w : World) (g : Nat) (hp : tmps.getD p undef = .pointer (some ⟨g, 0, none⟩)) (t : Tu) (h : t.Ok) (hb : Blk w 26 g (tuL t)) :
    (results fn tmps).run Try.prog w = .ok (tuC t) w := by
  have hl := run_loadVar_mid (P := Try.prog) w g 0 26 (tuL t) _ (Blk_10.range hb) Try.underlying26 rfl (sizeTuL h)
  rw [results_cell0 hr, hp]
  simp [Result.andThen, asAddr, hl, tuC]
theorem under_tu : Try.prog.underlying 26 = some (.struct (Try.prog.fieldsOf 26)) := by kernel_rfl
theorem held_tu : Try.prog.stoodInHeld 26 = false := by kernel_rfl
theorem fields_tu : ∃ o : Nat → Nat, (Try.prog.fieldsOf 26).toList = [⟨ "Src", 24, 0, false, "", "", o 0⟩, ⟨ "Dst", 24, 17, false, "", "", o 1⟩, ⟨ "Proto", 3, 34, false, "", "", o 2⟩, ⟨ "Sport", 3, 35, false, "", "", o 3⟩, ⟨ "Dport", 3, 36, false, "", "", o 4⟩] :=
  ⟨fun i => ((Try.prog.fieldsOf 26).toList[i]?.map (·.byteOffset)).getD 0, by kernel_rfl⟩
theorem tuL_dst {t : Tu} (h : t.Ok) : ((tuL t).drop 17).take 17 = adL t.d := by
  unfold tuL
  rw [List.drop_append_of_le_length (by rw [adL_len h.s]; omega), List.drop_of_length_le (by rw [adL_len h.s]; omega), List.nil_append, List.take_append_of_le_length (by rw [adL_len h.d]; omega), List.take_of_length_le (by rw [adL_len h.d]; omega)]
theorem tuL_src {t : Tu} (h : t.Ok) : ((tuL t).drop 0).take 17 = adL t.s := by
  unfold tuL
  rw [List.drop_zero, List.take_append_of_le_length (by rw [adL_len h.s]; omega), List.take_of_length_le (by rw [adL_len h.s]; omega)]
theorem tuL_num {t : Tu} (h : t.Ok) (i : Nat) : (tuL t)[34 + i]? = (tuE t)[i]? := by
  unfold tuL
  rw [List.getElem?_append_right (by rw [adL_len h.s]; omega), adL_len h.s, List.getElem?_append_right (by rw [adL_len h.d]; omega), adL_len h.d]
  congr 1
  omega
theorem cells_tu' : Try.prog.cellsOf 26 = 37 := by kernel_rfl
theorem info_tu : ∃ i, Try.prog.info? 26 = some i := info_of_underlying Try.underlying26
theorem part_tu (w : World) {cs : List Value} {t : Tu} {o : Nat} (h : (cs.drop o).take 37 = tuL t) : (part 26 cs.toArray o).run Try.prog w = .ok (tuC t) w := by
  obtain ⟨i, hi⟩ := info_tu
  have e : cs.toArray.extract o (o + 37) = (tuL t).toArray := by
    rw [← h]; simp [List.extract_eq_take_drop]
  unfold part isAgg
  simp only [Sem.run_bind, run_underlying Try.underlying26, Result.andThen_ok, Sem.run_pure, if_true, run_sizeOf w hi, cells_tu', e, tuC]
end Go.Proofs.Ytfbiinipiklkaaa
