/-
  Tuples and packets in memory: their cells; laws for whole loads and stores of them and of parts; put together; compared with themselves.
-/
import Derived.Test.YthfeamkomhiemaaKMath
namespace Go.Proofs.Ythfeamkomhiemaa
open Go.RowKit Go.Lib
/-- The cells of a tuple, of a packet. -/
def tuE (t : Tu) : List Value := [.int .i64 t.pr, .int .i64 t.sp, .int .i64 t.dp]
def tuL (t : Tu) : List Value := adL t.s ++ (adL t.d ++ tuE t)
def tuC (t : Tu) : Value := .agg (tuL t).toArray
theorem tuL_len {t : Tu} (h : t.Ok) : (tuL t).length = 37 := by
  unfold tuL
  rw [List.length_append, List.length_append, adL_len h.s, adL_len h.d]
  rfl
theorem tuL_one (t : Tu) : ∀ v ∈ tuL t, v.oneCell' = true := by
  intro v hv
  unfold tuL tuE at hv
  rcases List.mem_append.1 hv with hv | hv
  · exact adL_one _ v hv
  · rcases List.mem_append.1 hv with hv | hv
    · exact adL_one _ v hv
    · simp only [List.mem_cons, List.not_mem_nil, or_false] at hv
      rcases hv with rfl | rfl | rfl <;> rfl
theorem sizeTu : (Try.prog.info? 34).map (·.size) = some 37 := by kernel_rfl
theorem sizeTuL {t : Tu} (h : t.Ok) : (Try.prog.info? 34).map (·.size) = some (tuL t).length := by rw [tuL_len h]; exact sizeTu
/-- A row of cells that is known whole, of any type: one block. -/
abbrev Blk (w : World) (T : TypeId) (g : Nat) (cs : List Value) : Prop := Blk_10 w T g cs
section
variable {w : World} {T : TypeId} {g : Nat} {t : Tu} {p : Pk}
theorem tu_src (h : Blk w T g (tuL t)) : w.rangeAt g 0 (adL t.s) := Blk_10.mid h (pre := []) (post := adL t.d ++ tuE t) rfl rfl
theorem tu_dst (h : Blk w T g (tuL t)) (ho : t.Ok) : w.rangeAt g 17 (adL t.d) := Blk_10.mid h (pre := adL t.s) (post := tuE t) rfl (adL_len ho.s)
theorem tu_six (h : Blk w T g (tuL t)) : w.cell? ⟨g, 0, none⟩ = some (.bool t.s.six) := Blk_10.cell h rfl
theorem tu_num (h : Blk w T g (tuL t)) (ho : t.Ok) : w.cell? ⟨g, 34, none⟩ = some (.int .i64 t.pr) ∧ w.cell? ⟨g, 35, none⟩ = some (.int .i64 t.sp) ∧ w.cell? ⟨g, 36, none⟩ = some (.int .i64 t.dp) := by
  have e : ∀ i, (tuL t)[34 + i]? = (tuE t)[i]? := by
    intro i
    unfold tuL
    rw [List.getElem?_append_right (by rw [adL_len ho.s]; omega), adL_len ho.s, List.getElem?_append_right (by rw [adL_len ho.d]; omega), adL_len ho.d]
    congr 1
    omega
  exact ⟨Blk_10.cell h (e 0), Blk_10.cell h (e 1), Blk_10.cell h (e 2)⟩
end
/-- A part of a block, whole: a law for the walk, guarded by yes or not guarded. -/
theorem wpList_loadM {w : World} {ops : Array Oper} {rest : List Oper} {op : Oper} {a : Act} {Q : Exit → Act → World → Prop} (T : TypeId) (x : Operand) (ho : op.op = .load T x) (hw : Region.wanted op (yielded ops a.tmps) = true)
    (g o : Nat) (hx : a.eval x = .pointer (some ⟨g, o, none⟩)) (cs : List Value) (hb : w.rangeAt g o cs) (d : TypeDesc) (hu : Try.prog.underlying T = some d) (hd : d.isRow = true) (hi : (Try.prog.info? T).map (·.size) = some cs.length)
    (hk : wpList Try.prog ops Q rest (a.put op.dst (.agg cs.toArray)) w) : wpList Try.prog ops Q (op :: rest) a w :=
  BigFrame.wpList_want hw fun _ hK => wp_load_mid T x ho g o hx cs d hb hu hd hi (hK _ _ hk)
/-- An address, a tuple out of a block. -/
theorem wpList_loadAd {w : World} {ops : Array Oper} {rest : List Oper} {op : Oper} {a : Act} {Q : Exit → Act → World → Prop} (x : Operand) (ho : op.op = .load 32 x) (hw : Region.wanted op (yielded ops a.tmps) = true)
    (g o : Nat) (hx : a.eval x = .pointer (some ⟨g, o, none⟩)) (A : Ad) (h : A.b.length = 16) (hb : w.rangeAt g o (adL A))
    (hk : wpList Try.prog ops Q rest (a.put op.dst (adC A)) w) : wpList Try.prog ops Q (op :: rest) a w :=
  wpList_loadM 32 x ho hw g o hx (adL A) hb _ Try.underlying32 rfl (sizeAdL h) hk
theorem wpList_loadTu {w : World} {ops : Array Oper} {rest : List Oper} {op : Oper} {a : Act} {Q : Exit → Act → World → Prop} (x : Operand) (ho : op.op = .load 34 x) (hw : Region.wanted op (yielded ops a.tmps) = true)
    (g o : Nat) (hx : a.eval x = .pointer (some ⟨g, o, none⟩)) (t : Tu) (h : t.Ok) (hb : w.rangeAt g o (tuL t))
    (hk : wpList Try.prog ops Q rest (a.put op.dst (tuC t)) w) : wpList Try.prog ops Q (op :: rest) a w :=
  wpList_loadM 34 x ho hw g o hx (tuL t) hb _ Try.underlying34 rfl (sizeTuL h) hk
/-- A whole value is stored into a cell that was just laid. -/
theorem wpList_storeNewG {arr : Array Value} {w : World} {ops : Array Oper} {rest : List Oper} {op : Oper} {a : Act} {Q : Exit → Act → World → Prop} (hgd : op.guard = none) (T : TypeId) (x y : Operand) (ho : op.op = .store T x y)
    (hx : a.eval x = .pointer (some ⟨w.heap.size, 0, none⟩)) (cs : List Value) (hy : a.eval y = .agg cs.toArray) (hl : arr.size = cs.length) (hi : (Try.prog.info? T).map (·.size) = some cs.length) (h1 : ∀ v ∈ cs, v.oneCell' = true)
    (h : ∀ w', Blk w' T w.heap.size cs → Below w.heap.size w w' → w'.heap.size = w.heap.size + 1 → wpList Try.prog ops Q rest (a.put op.dst undef) w') :
    wpList Try.prog ops Q (op :: rest) a (w.alloc (.cells arr T)) := by
  have hb := Blk_10.new w T arr.toList
  rw [Array.toArray_toList] at hb
  refine wpList_storeR_10 hgd T x y ho w.heap.size hx cs hy arr.toList hb (by rw [Array.length_toList]; exact hl) hi h1 ?_
  refine h _ (hb.setRow_ _) (below_setRow ((Below.refl _ _).alloc (Nat.le_refl _) _) (Nat.le_refl _) _) ?_
  rw [World.setRow]; simp
theorem under_tu : Try.prog.underlying 34 = some (.struct (Try.prog.fieldsOf 34)) := by kernel_rfl
theorem held_tu : Try.prog.stoodInHeld 34 = false := by kernel_rfl
theorem guard_tu : Try.prog.eqGuardType Try.prog.depth 34 = false := by kernel_rfl
theorem fields_tu : ∃ o : Nat → Nat, (Try.prog.fieldsOf 34).toList = [⟨ "Src", 32, 0, false, "", "", o 0⟩, ⟨ "Dst", 32, 17, false, "", "", o 1⟩, ⟨ "Proto", 3, 34, false, "", "", o 2⟩, ⟨ "Sport", 3, 35, false, "", "", o 3⟩, ⟨ "Dport", 3, 36, false, "", "", o 4⟩] :=
  ⟨fun i => ((Try.prog.fieldsOf 34).toList[i]?.map (·.byteOffset)).getD 0, by kernel_rfl⟩
theorem tuL_dst {t : Tu} (h : t.Ok) : ((tuL t).drop 17).take 17 = adL t.d := by
  unfold tuL
  rw [List.drop_append_of_le_length (by rw [adL_len h.s]; omega), List.drop_of_length_le (by rw [adL_len h.s]; omega), List.nil_append, List.take_append_of_le_length (by rw [adL_len h.d]; omega), List.take_of_length_le (by rw [adL_len h.d]; omega)]
theorem tuL_src {t : Tu} (h : t.Ok) : ((tuL t).drop 0).take 17 = adL t.s := by
  unfold tuL
  rw [List.drop_zero, List.take_append_of_le_length (by rw [adL_len h.s]; omega), List.take_of_length_le (by rw [adL_len h.s]; omega)]
theorem tuL_num {t : Tu} (h : t.Ok) (i : Nat) : (tuL t)[34 + i]? = (tuE t)[i]? := by
  unfold tuL
  rw [List.getElem?_append_right (by rw [adL_len h.s]; omega), adL_len h.s, List.getElem?_append_right (by rw [adL_len h.d]; omega), adL_len h.d]
  congr 1
  omega
/-- A tuple, a packet is like itself. -/
theorem run_eq_tu (w : World) (d : Nat) {t : Tu} (h : t.Ok) : (Op.equalIn (d + 4) 34 (tuC t) (tuC t)).run Try.prog w = .ok true w := by
  unfold tuC
  rw [run_equalIn_agg w (d + 3) _ _ _ under_tu held_tu]
  obtain ⟨o, hf⟩ := fields_tu
  have es := run_eq_ad w d h.s h.s
  have ed := run_eq_ad w d h.d h.d
  rw [adB_refl] at es ed
  have ps := part_ad w (tuL_src h)
  have pd := part_ad w (tuL_dst h)
  rw [hf, run_fields w (d + 3) _ _ (fun _ => true) _ 0 ?_]
  · simp [List.range']
  · intro j f hj
    match j, hj with
    | 0, hj => cases hj; exact ⟨show ("Src" : String) ≠ "_" by decide, _, _, ps, ps, es⟩
    | 1, hj => cases hj; exact ⟨show ("Dst" : String) ≠ "_" by decide, _, _, pd, pd, ed⟩
    | 2, hj => cases hj; exact ⟨show ("Proto" : String) ≠ "_" by decide, _, _, part_int w (tuL_num h 0), part_int w (tuL_num h 0), eq_int w (d + 2) _⟩
    | 3, hj => cases hj; exact ⟨show ("Sport" : String) ≠ "_" by decide, _, _, part_int w (tuL_num h 1), part_int w (tuL_num h 1), eq_int w (d + 2) _⟩
    | 4, hj => cases hj; exact ⟨show ("Dport" : String) ≠ "_" by decide, _, _, part_int w (tuL_num h 2), part_int w (tuL_num h 2), eq_int w (d + 2) _⟩
theorem run_eql_tu (w : World) {t : Tu} (h : t.Ok) : (binOp .eql 34 (tuC t) (tuC t)).run Try.prog w = .ok (.bool true) w := by
  have := run_eq_tu w 9996 h
  unfold tuC at this ⊢
  rw [run_eql_struct, this, Result.andThen_ok]
end Go.Proofs.Ythfeamkomhiemaa
