/-
  Tuples and packets in memory: their cells; laws for whole loads and stores of them and of parts; put together; compared with themselves.
-/
import Derived.Test.YtkmcopenflakkaaKMath
namespace Go.Proofs.Ytkmcopenflakkaa
open Go.RowKit Go.Lib
/-- The cells of a tuple, of a packet. -/
def tuE (t : Tu) : List Value := [.int .i64 t.pr, .int .i64 t.sp, .int .i64 t.dp]
def tuL (t : Tu) : List Value := adL t.s ++ (adL t.d ++ tuE t)
def tuC (t : Tu) : Value := .agg (tuL t).toArray
def pkE (p : Pk) : List Value := [.int .i64 p.fl, .int .i64 p.net, .int .i64 p.sg, .int .i64 p.en]
def pkL (p : Pk) : List Value := .int .i64 p.kind :: (tuL p.t ++ pkE p)
def pkC (p : Pk) : Value := .agg (pkL p).toArray
theorem tuL_len {t : Tu} (h : t.Ok) : (tuL t).length = 37 := by
  unfold tuL
  rw [List.length_append, List.length_append, adL_len h.s, adL_len h.d]
  rfl
theorem pkL_len {p : Pk} (h : p.t.Ok) : (pkL p).length = 42 := by
  unfold pkL
  rw [List.length_cons, List.length_append, tuL_len h]
  rfl
theorem tuL_one (t : Tu) : ∀ v ∈ tuL t, v.oneCell' = true := by
  intro v hv
  unfold tuL tuE at hv
  rcases List.mem_append.1 hv with hv | hv
  · exact adL_one _ v hv
  · rcases List.mem_append.1 hv with hv | hv
    · exact adL_one _ v hv
    · simp only [List.mem_cons, List.not_mem_nil, or_false] at hv
      rcases hv with rfl | rfl | rfl <;> rfl
theorem pkL_one (p : Pk) : ∀ v ∈ pkL p, v.oneCell' = true := by
  intro v hv
  unfold pkL pkE at hv
  rcases List.mem_cons.1 hv with rfl | hv
  · rfl
  · rcases List.mem_append.1 hv with hv | hv
    · exact tuL_one _ v hv
    · simp only [List.mem_cons, List.not_mem_nil, or_false] at hv
      rcases hv with rfl | rfl | rfl | rfl <;> rfl
theorem sizeTu : (Try.prog.info? 35).map (·.size) = some 37 := by kernel_rfl
theorem sizePk : (Try.prog.info? 37).map (·.size) = some 42 := by kernel_rfl
theorem sizeTuL {t : Tu} (h : t.Ok) : (Try.prog.info? 35).map (·.size) = some (tuL t).length := by rw [tuL_len h]; exact sizeTu
theorem sizePkL {p : Pk} (h : p.t.Ok) : (Try.prog.info? 37).map (·.size) = some (pkL p).length := by rw [pkL_len h]; exact sizePk
/-- A row of cells that is known whole, of any type: one block. -/
abbrev Blk (w : World) (T : TypeId) (g : Nat) (cs : List Value) : Prop := Blk_10 w T g cs
section
variable {w : World} {T : TypeId} {g : Nat} {t : Tu} {p : Pk}
theorem tu_src (h : Blk w T g (tuL t)) : w.rangeAt g 0 (adL t.s) := Blk_10.mid h (pre := []) (post := adL t.d ++ tuE t) rfl rfl
theorem tu_dst (h : Blk w T g (tuL t)) (ho : t.Ok) : w.rangeAt g 17 (adL t.d) := Blk_10.mid h (pre := adL t.s) (post := tuE t) rfl (adL_len ho.s)
theorem tu_six (h : Blk w T g (tuL t)) : w.cell? ⟨g, 0, none⟩ = some (.bool t.s.six) := Blk_10.cell h rfl
theorem tu_num (h : Blk w T g (tuL t)) (ho : t.Ok) : w.cell? ⟨g, 34, none⟩ = some (.int .i64 t.pr) ∧ w.cell? ⟨g, 35, none⟩ = some (.int .i64 t.sp) ∧ w.cell? ⟨g, 36, none⟩ = some (.int .i64 t.dp) := by
  have e : ∀ i, (tuL t)[34 + i]? = (tuE t)[i]? := by
    intro i
    unfold tuL
    rw [List.getElem?_append_right (by rw [adL_len ho.s]; omega), adL_len ho.s, List.getElem?_append_right (by rw [adL_len ho.d]; omega), adL_len ho.d]
    congr 1
    omega
  exact ⟨Blk_10.cell h (e 0), Blk_10.cell h (e 1), Blk_10.cell h (e 2)⟩
end
/-- A part of a block, whole: a law for the walk, guarded by yes or not guarded. -/
theorem wpList_loadM {w : World} {ops : Array Oper} {rest : List Oper} {op : Oper} {a : Act} {Q : Exit → Act → World → Prop} (T : TypeId) (x : Operand) (ho : op.op = .load T x) (hw : Region.wanted op (yielded ops a.tmps) = true)
    (g o : Nat) (hx : a.eval x = .pointer (some ⟨g, o, none⟩)) (cs : List Value) (hb : w.rangeAt g o cs) (d : TypeDesc) (hu : Try.prog.underlying T = some d) (hd : d.isRow = true) (hi : (Try.prog.info? T).map (·.size) = some cs.length)
    (hk : wpList Try.prog ops Q rest (a.put op.dst (.agg cs.toArray)) w) : wpList Try.prog ops Q (op :: rest) a w :=
  BigFrame.wpList_want hw fun _ hK => wp_load_mid T x ho g o hx cs d hb hu hd hi (hK _ _ hk)
/-- An address, a tuple out of a block. -/
theorem wpList_loadAd {w : World} {ops : Array Oper} {rest : List Oper} {op : Oper} {a : Act} {Q : Exit → Act → World → Prop} (x : Operand) (ho : op.op = .load 25 x) (hw : Region.wanted op (yielded ops a.tmps) = true)
    (g o : Nat) (hx : a.eval x = .pointer (some ⟨g, o, none⟩)) (A : Ad) (h : A.b.length = 16) (hb : w.rangeAt g o (adL A))
    (hk : wpList Try.prog ops Q rest (a.put op.dst (adC A)) w) : wpList Try.prog ops Q (op :: rest) a w :=
  wpList_loadM 25 x ho hw g o hx (adL A) hb _ Try.underlying25 rfl (sizeAdL h) hk
theorem wpList_loadTu {w : World} {ops : Array Oper} {rest : List Oper} {op : Oper} {a : Act} {Q : Exit → Act → World → Prop} (x : Operand) (ho : op.op = .load 35 x) (hw : Region.wanted op (yielded ops a.tmps) = true)
    (g o : Nat) (hx : a.eval x = .pointer (some ⟨g, o, none⟩)) (t : Tu) (h : t.Ok) (hb : w.rangeAt g o (tuL t))
    (hk : wpList Try.prog ops Q rest (a.put op.dst (tuC t)) w) : wpList Try.prog ops Q (op :: rest) a w :=
  wpList_loadM 35 x ho hw g o hx (tuL t) hb _ Try.underlying35 rfl (sizeTuL h) hk
theorem wpList_loadPk {w : World} {ops : Array Oper} {rest : List Oper} {op : Oper} {a : Act} {Q : Exit → Act → World → Prop} (x : Operand) (ho : op.op = .load 37 x) (hw : Region.wanted op (yielded ops a.tmps) = true)
    (g : Nat) (hx : a.eval x = .pointer (some ⟨g, 0, none⟩)) (p : Pk) (h : p.t.Ok) (hb : Blk w 37 g (pkL p))
    (hk : wpList Try.prog ops Q rest (a.put op.dst (pkC p)) w) : wpList Try.prog ops Q (op :: rest) a w :=
  wpList_loadM 37 x ho hw g 0 hx (pkL p) (Blk_10.range hb) _ Try.underlying37 rfl (sizePkL h) hk
/-- A whole value is stored into a cell that was just laid. -/
theorem wpList_storeNewG {arr : Array Value} {w : World} {ops : Array Oper} {rest : List Oper} {op : Oper} {a : Act} {Q : Exit → Act → World → Prop} (hgd : op.guard = none) (T : TypeId) (x y : Operand) (ho : op.op = .store T x y)
    (hx : a.eval x = .pointer (some ⟨w.heap.size, 0, none⟩)) (cs : List Value) (hy : a.eval y = .agg cs.toArray) (hl : arr.size = cs.length) (hi : (Try.prog.info? T).map (·.size) = some cs.length) (h1 : ∀ v ∈ cs, v.oneCell' = true)
    (h : ∀ w', Blk w' T w.heap.size cs → Below w.heap.size w w' → w'.heap.size = w.heap.size + 1 → wpList Try.prog ops Q rest (a.put op.dst undef) w') :
    wpList Try.prog ops Q (op :: rest) a (w.alloc (.cells arr T)) := by
  have hb := Blk_10.new w T arr.toList
  rw [Array.toArray_toList] at hb
  refine wpList_storeR_10 hgd T x y ho w.heap.size hx cs hy arr.toList hb (by rw [Array.length_toList]; exact hl) hi h1 ?_
  refine h _ (hb.setRow_ _) (below_setRow ((Below.refl _ _).alloc (Nat.le_refl _) _) (Nat.le_refl _) _) ?_
  rw [World.setRow]; simp
/-- The result of one tuple, one packet in a cell. -/
theorem results_tu {fn : Func} {p : Tmp} (hr : fn.results = #[.cell p 35]) (tmps : Array Value) (w : World) (g : Nat) (hp : tmps.getD p undef = .pointer (some ⟨g, 0, none⟩)) (t : Tu) (h : t.Ok) (hb : Blk w 35 g (tuL t)) :
    (results fn tmps).run Try.prog w = .ok (tuC t) w := by
  have hl := run_loadVar_mid (P := Try.prog) w g 0 35 (tuL t) _ (Blk_10.range hb) Try.underlying35 rfl (sizeTuL h)
  rw [results_cell0 hr, hp]
  simp [Result.andThen, asAddr, hl, tuC]
theorem results_pk {fn : Func} {p : Tmp} (hr : fn.results = #[.cell p 37]) (tmps : Array Value) (w : World) (g : Nat) (hp : tmps.getD p undef = .pointer (some ⟨g, 0, none⟩)) (q : Pk) (h : q.t.Ok) (hb : Blk w 37 g (pkL q)) :
    (results fn tmps).run Try.prog w = .ok (pkC q) w := by
  have hl := run_loadVar_mid (P := Try.prog) w g 0 37 (pkL q) _ (Blk_10.range hb) Try.underlying37 rfl (sizePkL h)
  rw [results_cell0 hr, hp]
  simp [Result.andThen, asAddr, hl, pkC]
/-- Put together of their parts. -/
theorem built_tu (s d : Ad) (pr sp dp : Int) (hs : s.b.length = 16) (hd : d.b.length = 16) : Try.prog.built 35 [(0, adC s), (1, adC d), (2, .int .i64 pr), (3, .int .i64 sp), (4, .int .i64 dp)] = some (tuL ⟨s, d, pr, sp, dp⟩).toArray := by
  obtain ⟨s6, sb⟩ := s
  obtain ⟨d6, db⟩ := d
  obtain ⟨a0, a1, a2, a3, a4, a5, a6, a7, a8, a9, a10, a11, a12, a13, a14, a15, rfl⟩ := sixteen hs
  obtain ⟨b0, b1, b2, b3, b4, b5, b6, b7, b8, b9, b10, b11, b12, b13, b14, b15, rfl⟩ := sixteen hd
  kernel_rfl
theorem built_tu3 (s d : Ad) (pr : Int) (hs : s.b.length = 16) (hd : d.b.length = 16) : Try.prog.built 35 [(0, adC s), (1, adC d), (2, .int .i64 pr)] = some (tuL ⟨s, d, pr, 0, 0⟩).toArray := by
  obtain ⟨s6, sb⟩ := s
  obtain ⟨d6, db⟩ := d
  obtain ⟨a0, a1, a2, a3, a4, a5, a6, a7, a8, a9, a10, a11, a12, a13, a14, a15, rfl⟩ := sixteen hs
  obtain ⟨b0, b1, b2, b3, b4, b5, b6, b7, b8, b9, b10, b11, b12, b13, b14, b15, rfl⟩ := sixteen hd
  kernel_rfl
theorem built_tu0 : Try.prog.built 35 [] = some (tuL Tu.zero).toArray := by kernel_rfl
theorem built_pk1 (k : Int) : Try.prog.built 37 [(0, .int .i64 k)] = some (pkL (kindK k)).toArray := by kernel_rfl
theorem built_pk (t : Tu) (fl net sg en : Int) (h : t.Ok) : Try.prog.built 37 [(1, tuC t), (2, .int .i64 fl), (3, .int .i64 net), (4, .int .i64 sg), (5, .int .i64 en)] = some (pkL ⟨0, t, fl, net, sg, en⟩).toArray := by
  obtain ⟨⟨s6, sb⟩, ⟨d6, db⟩, pr, sp, dp⟩ := t
  obtain ⟨a0, a1, a2, a3, a4, a5, a6, a7, a8, a9, a10, a11, a12, a13, a14, a15, rfl⟩ := sixteen h.s
  obtain ⟨b0, b1, b2, b3, b4, b5, b6, b7, b8, b9, b10, b11, b12, b13, b14, b15, rfl⟩ := sixteen h.d
  kernel_rfl
theorem under_tu : Try.prog.underlying 35 = some (.struct (Try.prog.fieldsOf 35)) := by kernel_rfl
theorem held_tu : Try.prog.stoodInHeld 35 = false := by kernel_rfl
theorem fields_tu : ∃ o : Nat → Nat, (Try.prog.fieldsOf 35).toList = [⟨ "Src", 25, 0, false, "", "", o 0⟩, ⟨ "Dst", 25, 17, false, "", "", o 1⟩, ⟨ "Proto", 3, 34, false, "", "", o 2⟩, ⟨ "Sport", 3, 35, false, "", "", o 3⟩, ⟨ "Dport", 3, 36, false, "", "", o 4⟩] :=
  ⟨fun i => ((Try.prog.fieldsOf 35).toList[i]?.map (·.byteOffset)).getD 0, by kernel_rfl⟩
theorem tuL_dst {t : Tu} (h : t.Ok) : ((tuL t).drop 17).take 17 = adL t.d := by
  unfold tuL
  rw [List.drop_append_of_le_length (by rw [adL_len h.s]; omega), List.drop_of_length_le (by rw [adL_len h.s]; omega), List.nil_append, List.take_append_of_le_length (by rw [adL_len h.d]; omega), List.take_of_length_le (by rw [adL_len h.d]; omega)]
theorem tuL_src {t : Tu} (h : t.Ok) : ((tuL t).drop 0).take 17 = adL t.s := by
  unfold tuL
  rw [List.drop_zero, List.take_append_of_le_length (by rw [adL_len h.s]; omega), List.take_of_length_le (by rw [adL_len h.s]; omega)]
theorem tuL_num {t : Tu} (h : t.Ok) (i : Nat) : (tuL t)[34 + i]? = (tuE t)[i]? := by
  unfold tuL
  rw [List.getElem?_append_right (by rw [adL_len h.s]; omega), adL_len h.s, List.getElem?_append_right (by rw [adL_len h.d]; omega), adL_len h.d]
  congr 1
  omega
/-- A tuple, a packet is like itself. -/
theorem run_eq_tu (w : World) (d : Nat) {t : Tu} (h : t.Ok) : (Op.equalIn (d + 4) 35 (tuC t) (tuC t)).run Try.prog w = .ok true w := by
  unfold tuC
  rw [run_equalIn_agg w (d + 3) _ _ _ under_tu held_tu]
  obtain ⟨o, hf⟩ := fields_tu
  have es := run_eq_ad w d h.s h.s
  have ed := run_eq_ad w d h.d h.d
  rw [adB_refl] at es ed
  have ps := part_ad w (tuL_src h)
  have pd := part_ad w (tuL_dst h)
  rw [hf, run_fields w (d + 3) _ _ (fun _ => true) _ 0 ?_]
  · simp [List.range']
  · intro j f hj
    match j, hj with
    | 0, hj => cases hj; exact ⟨show ("Src" : String) ≠ "_" by decide, _, _, ps, ps, es⟩
    | 1, hj => cases hj; exact ⟨show ("Dst" : String) ≠ "_" by decide, _, _, pd, pd, ed⟩
    | 2, hj => cases hj; exact ⟨show ("Proto" : String) ≠ "_" by decide, _, _, part_int w (tuL_num h 0), part_int w (tuL_num h 0), eq_int w (d + 2) _⟩
    | 3, hj => cases hj; exact ⟨show ("Sport" : String) ≠ "_" by decide, _, _, part_int w (tuL_num h 1), part_int w (tuL_num h 1), eq_int w (d + 2) _⟩
    | 4, hj => cases hj; exact ⟨show ("Dport" : String) ≠ "_" by decide, _, _, part_int w (tuL_num h 2), part_int w (tuL_num h 2), eq_int w (d + 2) _⟩
theorem pkL_num {p : Pk} (h : p.t.Ok) (i : Nat) : (pkL p)[38 + i]? = (pkE p)[i]? := by
  unfold pkL
  rw [show 38 + i = (37 + i) + 1 by omega, List.getElem?_cons_succ, List.getElem?_append_right (by rw [tuL_len h]; omega), tuL_len h]
  congr 1
  omega
end Go.Proofs.Ytkmcopenflakkaa
