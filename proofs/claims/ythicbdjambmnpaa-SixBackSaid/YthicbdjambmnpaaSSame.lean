/-
  Two addresses, two headers compared.
-/
import Derived.Test.YthicbdjambmnpaaSCell
namespace Go.Proofs.Ythicbdjambmnpaa
open Go.RowKit Go.Lib

theorem info_u8 : ∃ i, Try.prog.info? 5 = some i := by
  cases h : Try.prog.info? 5 with
  | none => have := size8; rw [h] at this; cases this
  | some i => exact ⟨i, rfl⟩
theorem info_16 : ∃ i, Try.prog.info? 24 = some i := info_of_underlying Try.underlying24
theorem info_ad : ∃ i, Try.prog.info? 26 = some i := info_of_underlying Try.underlying26
theorem cells_u8' : Try.prog.cellsOf 5 = 1 := by kernel_rfl
theorem cells_16' : Try.prog.cellsOf 24 = 16 := by kernel_rfl
theorem cells_ad' : Try.prog.cellsOf 26 = 17 := by kernel_rfl
theorem plain_u8 : Try.prog.plainKey 5 = true := by kernel_rfl
theorem plain_int : Try.prog.plainKey 3 = true := by kernel_rfl
theorem plain_bool : Try.prog.plainKey 4 = true := by kernel_rfl
theorem run_eq8 (w : World) (d : Nat) (x y : UInt8) : (Op.equalIn (d + 1) 5 (v8 x) (v8 y)).run Try.prog w = .ok (decide (x = y)) w := by
  unfold v8
  rw [run_equalIn_int w d 5 .u8 _ _ _ Try.underlying5]
  congr 1
  have : ((x.toNat : Int) == (y.toNat : Int)) = decide ((x.toNat : Int) = (y.toNat : Int)) := rfl
  rw [this]
  congr 1
  apply propext
  constructor
  · intro h
    exact UInt8.toNat_inj.1 (by omega)
  · intro h
    rw [h]
theorem run_items8 (w : World) (d : Nat) (xs ys : List UInt8) (hl : ys.length = xs.length) : ∀ is : List Nat, (∀ i ∈ is, i < xs.length) → (Op.eqItems (d + 1) 5 1 (xs.map v8).toArray (ys.map v8).toArray is).run Try.prog w = .ok (is.all fun i => decide (xs[i]? = ys[i]?)) w
  | [], _ => by simp [Op.eqItems]
  | i :: is, h => by
    have hi := h i (by simp)
    have hi' : i < ys.length := by omega
    have hx : (xs.map v8).toArray[i * 1]? = some (v8 xs[i]) := by simp [hi]
    have hy : (ys.map v8).toArray[i * 1]? = some (v8 ys[i]) := by simp [hi']
    simp only [Op.eqItems, Sem.run_bind, run_part_plain w plain_u8 hx, run_part_plain w plain_u8 hy, Result.andThen_ok, run_eq8]
    have ih := run_items8 w d xs ys hl is fun j hj => h j (by simp [hj])
    by_cases e : xs[i] = ys[i]
    · simp only [e, decide_true, Bool.not_true, Bool.false_eq_true, if_false]
      rw [ih]
      simp [List.getElem?_eq_getElem hi, List.getElem?_eq_getElem hi', e]
    · simp only [e, decide_false, Bool.not_false, if_true, Sem.run_pure]
      simp [List.getElem?_eq_getElem hi, List.getElem?_eq_getElem hi', e]
theorem all_range {xs ys : List UInt8} {n : Nat} (hx : xs.length = n) (hy : ys.length = n) : ((List.range n).all fun i => decide (xs[i]? = ys[i]?)) = decide (xs = ys) := by
  apply Bool.eq_iff_iff.2
  rw [List.all_eq_true, decide_eq_true_eq]
  constructor
  · intro h
    apply List.ext_getElem?
    intro i
    by_cases hi : i < n
    · exact of_decide_eq_true (h i (List.mem_range.2 hi))
    · rw [List.getElem?_eq_none (by omega), List.getElem?_eq_none (by omega)]
  · intro h i _
    rw [h]
    simp
theorem run_eq16 (w : World) (d : Nat) {xs ys : List UInt8} (hx : xs.length = 16) (hy : ys.length = 16) : (Op.equalIn (d + 2) 24 (.agg (xs.map v8).toArray) (.agg (ys.map v8).toArray)).run Try.prog w = .ok (decide (xs = ys)) w := by
  obtain ⟨i, hi⟩ := info_u8
  rw [show d + 2 = (d + 1) + 1 from rfl, run_equalIn_array w (d + 1) _ _ Try.underlying24 hi, cells_u8', run_items8 w d xs ys (by omega) _ (fun i hi => by rw [hx]; exact List.mem_range.1 hi)]
  rw [all_range hx hy]
theorem part16 (w : World) {cs : List Value} {xs : List UInt8} {o : Nat} (h : (cs.drop o).take 16 = xs.map v8) : (part 24 cs.toArray o).run Try.prog w = .ok (.agg (xs.map v8).toArray) w := by
  obtain ⟨i, hi⟩ := info_16
  have e : cs.toArray.extract o (o + 16) = (xs.map v8).toArray := by
    rw [← h]; simp [List.extract_eq_take_drop]
  unfold part isAgg
  simp only [Sem.run_bind, run_underlying Try.underlying24, Result.andThen_ok, Sem.run_pure, if_true, run_sizeOf w hi, cells_16', e]
theorem part_ad (w : World) {cs : List Value} {a : Ad} {o : Nat} (h : (cs.drop o).take 17 = adL a) : (part 26 cs.toArray o).run Try.prog w = .ok (adC a) w := by
  obtain ⟨i, hi⟩ := info_ad
  have e : cs.toArray.extract o (o + 17) = (adL a).toArray := by
    rw [← h]; simp [List.extract_eq_take_drop]
  unfold part isAgg
  simp only [Sem.run_bind, run_underlying Try.underlying26, Result.andThen_ok, Sem.run_pure, if_true, run_sizeOf w hi, cells_ad', e, adC]
theorem part_bool (w : World) {cs : List Value} {v : Value} {o : Nat} (h : cs[o]? = some v) : (part 4 cs.toArray o).run Try.prog w = .ok v w := run_part_plain w plain_bool (by simpa using h)
theorem part_int (w : World) {cs : List Value} {v : Value} {o : Nat} (h : cs[o]? = some v) : (part 3 cs.toArray o).run Try.prog w = .ok v w := run_part_plain w plain_int (by simpa using h)
theorem under_ad : Try.prog.underlying 26 = some (.struct (Try.prog.fieldsOf 26)) := by kernel_rfl
theorem under_fr : Try.prog.underlying 28 = some (.struct (Try.prog.fieldsOf 28)) := by kernel_rfl
theorem held_ad : Try.prog.stoodInHeld 26 = false := by kernel_rfl
theorem held_fr : Try.prog.stoodInHeld 28 = false := by kernel_rfl
/-- Fields compared, one behind the other. -/
theorem run_fields (w : World) (d : Nat) (xs ys : Array Value) (g : Nat → Bool) : ∀ (fs : List Field) (k : Nat), (∀ j f, fs[j]? = some f → f.name ≠ "_" ∧ ∃ a b, (part f.type xs f.offset).run Try.prog w = .ok a w ∧ (part f.type ys f.offset).run Try.prog w = .ok b w ∧ (Op.equalIn d f.type a b).run Try.prog w = .ok (g (k + j)) w) →
    (Op.eqFields d xs ys fs).run Try.prog w = .ok ((List.range' k fs.length).all g) w
  | [], k, _ => by simp [Op.eqFields]
  | f :: fs, k, h => by
    obtain ⟨hn, a, b, pa, pb, he⟩ := h 0 f rfl
    have ih := run_fields w d xs ys g fs (k + 1) (fun j f' hj => by
      have := h (j + 1) f' (by simpa using hj)
      rwa [show k + 1 + j = k + (j + 1) by omega])
    simp only [Op.eqFields, hn, ne_eq, not_false_eq_true, if_true, Sem.run_bind, pa, pb, he, Result.andThen_ok, List.length_cons, List.range'_succ, List.all_cons]
    cases hg : g k
    · simp
    · simpa using ih
/-- Two addresses are alike. -/
def adB (a b : Ad) : Bool := a.six == b.six && decide (a.b = b.b)
theorem adB_refl (a : Ad) : adB a a = true := by simp [adB]
theorem adB_eq {a b : Ad} : adB a b = true ↔ a = b := by
  obtain ⟨s, x⟩ := a
  obtain ⟨t, y⟩ := b
  simp [adB]
theorem fields_ad : ∃ o0 o1 : Nat, (Try.prog.fieldsOf 26).toList = [⟨ "Six", 4, 0, false, "", "", o0⟩, ⟨ "B", 24, 1, false, "", "", o1⟩] :=
  ⟨((Try.prog.fieldsOf 26).toList[0]?.map (·.byteOffset)).getD 0, ((Try.prog.fieldsOf 26).toList[1]?.map (·.byteOffset)).getD 0, by kernel_rfl⟩
theorem run_eq_ad (w : World) (d : Nat) {a b : Ad} (ha : a.b.length = 16) (hb : b.b.length = 16) : (Op.equalIn (d + 3) 26 (adC a) (adC b)).run Try.prog w = .ok (adB a b) w := by
  have pa := part_bool w (cs := adL a) (o := 0) rfl
  have pb := part_bool w (cs := adL b) (o := 0) rfl
  have qa := part16 w (cs := adL a) (xs := a.b) (o := 1) (by simp [adL, ha, List.take_of_length_le])
  have qb := part16 w (cs := adL b) (xs := b.b) (o := 1) (by simp [adL, hb, List.take_of_length_le])
  have e16 := run_eq16 w d ha hb
  have eb : (Op.equalIn (d + 2) 4 (.bool a.six) (.bool b.six)).run Try.prog w = .ok (a.six == b.six) w := run_equalIn_bool' w (d + 1) 4 a.six b.six Try.underlying4
  unfold adC
  rw [show d + 3 = (d + 2) + 1 from rfl, run_equalIn_agg w (d + 2) _ _ _ under_ad held_ad]
  obtain ⟨o0, o1, hf⟩ := fields_ad
  rw [hf, run_fields w (d + 2) _ _ (fun i => if i = 0 then a.six == b.six else decide (a.b = b.b)) _ 0 ?_]
  · simp [adB, List.range']
  · intro j f hj
    match j, hj with
    | 0, hj => cases hj; exact ⟨show ("Six" : String) ≠ "_" by decide, _, _, pa, pb, eb⟩
    | 1, hj => cases hj; exact ⟨show ("B" : String) ≠ "_" by decide, _, _, qa, qb, e16⟩
theorem fields_fr : ∃ o : Nat → Nat, (Try.prog.fieldsOf 28).toList = [⟨ "Head", 3, 0, false, "", "", o 0⟩, ⟨ "Total", 3, 1, false, "", "", o 1⟩, ⟨ "Hop", 3, 2, false, "", "", o 2⟩, ⟨ "Frag", 4, 3, false, "", "", o 3⟩, ⟨ "Exts", 3, 4, false, "", "", o 4⟩,
    ⟨ "Proto", 3, 5, false, "", "", o 5⟩, ⟨ "Src", 26, 6, false, "", "", o 6⟩, ⟨ "Dst", 26, 23, false, "", "", o 7⟩] :=
  ⟨fun i => ((Try.prog.fieldsOf 28).toList[i]?.map (·.byteOffset)).getD 0, by kernel_rfl⟩
theorem frL_src {f : Fr} (h : f.Ok) : ((frL f).drop 6).take 17 = adL f.s := by
  show (adL f.s ++ adL f.d).take 17 = _
  rw [List.take_append_of_le_length (by rw [adL_len h.s]; omega), List.take_of_length_le (by rw [adL_len h.s]; omega)]
theorem frL_dst {f : Fr} (h : f.Ok) : ((frL f).drop 23).take 17 = adL f.d := by
  rw [show (23 : Nat) = 6 + 17 from rfl, ← List.drop_drop]
  show ((adL f.s ++ adL f.d).drop 17).take 17 = _
  rw [List.drop_append_of_le_length (by rw [adL_len h.s]; omega), List.drop_of_length_le (by rw [adL_len h.s]; omega), List.nil_append, List.take_of_length_le (by rw [adL_len h.d]; omega)]
theorem eq_int (w : World) (d : Nat) (n : Int) : (Op.equalIn (d + 1) 3 (.int .i64 n) (.int .i64 n)).run Try.prog w = .ok true w := by
  rw [run_equalIn_int w d 3 .i64 _ _ _ Try.underlying3]
  simp
theorem eq_bool (w : World) (d : Nat) (n : Bool) : (Op.equalIn (d + 1) 4 (.bool n) (.bool n)).run Try.prog w = .ok true w := by
  rw [run_equalIn_bool' w d 4 n n Try.underlying4]
  simp
/-- A header is like itself. -/
theorem run_eq_fr (w : World) {f : Fr} (h : f.Ok) : (Op.equalIn 10000 28 (frC f) (frC f)).run Try.prog w = .ok true w := by
  unfold frC
  rw [show 10000 = 9999 + 1 from rfl, run_equalIn_agg w 9999 _ _ _ under_fr held_fr]
  obtain ⟨o, hf⟩ := fields_fr
  have es := (run_eq_ad w 9996 h.s h.s)
  have ed := (run_eq_ad w 9996 h.d h.d)
  rw [adB_refl] at es ed
  have ps := part_ad w (frL_src h)
  have pd := part_ad w (frL_dst h)
  rw [hf, run_fields w 9999 _ _ (fun _ => true) _ 0 ?_]
  · simp [List.range']
  · intro j f hj
    match j, hj with
    | 0, hj => cases hj; exact ⟨show ("Head" : String) ≠ "_" by decide, _, _, part_int w rfl, part_int w rfl, eq_int w 9998 _⟩
    | 1, hj => cases hj; exact ⟨show ("Total" : String) ≠ "_" by decide, _, _, part_int w rfl, part_int w rfl, eq_int w 9998 _⟩
    | 2, hj => cases hj; exact ⟨show ("Hop" : String) ≠ "_" by decide, _, _, part_int w rfl, part_int w rfl, eq_int w 9998 _⟩
    | 3, hj => cases hj; exact ⟨show ("Frag" : String) ≠ "_" by decide, _, _, part_bool w rfl, part_bool w rfl, eq_bool w 9998 _⟩
    | 4, hj => cases hj; exact ⟨show ("Exts" : String) ≠ "_" by decide, _, _, part_int w rfl, part_int w rfl, eq_int w 9998 _⟩
    | 5, hj => cases hj; exact ⟨show ("Proto" : String) ≠ "_" by decide, _, _, part_int w rfl, part_int w rfl, eq_int w 9998 _⟩
    | 6, hj => cases hj; exact ⟨show ("Src" : String) ≠ "_" by decide, _, _, ps, ps, es⟩
    | 7, hj => cases hj; exact ⟨show ("Dst" : String) ≠ "_" by decide, _, _, pd, pd, ed⟩
theorem run_eql_fr (w : World) {f : Fr} (h : f.Ok) : (binOp .eql 28 (frC f) (frC f)).run Try.prog w = .ok (.bool true) w := by
  have := run_eq_fr w h
  unfold frC at this ⊢
  rw [run_eql_struct, this, Result.andThen_ok]
theorem run_eql_ad (w : World) {a b : Ad} (ha : a.b.length = 16) (hb : b.b.length = 16) : (binOp .eql 26 (adC a) (adC b)).run Try.prog w = .ok (.bool (adB a b)) w := by
  have := run_eq_ad w 9997 ha hb
  unfold adC at this ⊢
  rw [run_eql_struct, this, Result.andThen_ok]
theorem guard_fr : Try.prog.eqGuardType Try.prog.depth 28 = false := by kernel_rfl
theorem guard_ad : Try.prog.eqGuardType Try.prog.depth 26 = false := by kernel_rfl
/-- A comparison of two structs, at a step of a region that draws. -/
theorem yields_eql {ops : Array Oper} {S : World → Prop} {op : Oper} {a : Act} (hw : Region.wanted op (yielded ops a.tmps) = true) (T k : TypeId) (x y : Operand) (ho : op.op = .binOp .eql T x y k)
    (xs ys : Array Value) (hx : a.eval x = .agg xs) (hy : a.eval y = .agg ys) (hm : Try.prog.eqGuardType Try.prog.depth T = false) (r : Bool) (hr : ∀ w, (binOp .eql T (.agg xs) (.agg ys)).run Try.prog w = .ok (.bool r) w) : YieldsIf Try.prog ops S op (.bool r) a :=
  .inl ⟨hw, fun w _ => by
    unfold execOp
    simp only [ho, hx, hy, Sem.run_bind, run_eqGuard_agg w .eql T x y xs ys hm, Result.andThen_ok, hr, Sem.run_pure]⟩
/-- The same, in a plain region, under a guard that says yes. -/
theorem wpList_eqlw {w : World} {ops : Array Oper} {rest : List Oper} {op : Oper} {a : Act} {Q : Exit → Act → World → Prop} (T k : TypeId) (x y : Operand) (ho : op.op = .binOp .eql T x y k) (hw : Region.wanted op (yielded ops a.tmps) = true)
    (xs ys : Array Value) (hx : a.eval x = .agg xs) (hy : a.eval y = .agg ys) (hm : Try.prog.eqGuardType Try.prog.depth T = false) (r : Bool) (hr : ∀ w, (binOp .eql T (.agg xs) (.agg ys)).run Try.prog w = .ok (.bool r) w)
    (hk : wpList Try.prog ops Q rest (a.put op.dst (.bool r)) w) : wpList Try.prog ops Q (op :: rest) a w :=
  BigFrame.wpList_want hw fun K hK => by
    unfold Oper.wp execOp
    simp only [ho, hx, hy, Sem.run_bind, run_eqGuard_agg w .eql T x y xs ys hm, Result.andThen_ok, hr, Sem.run_pure]
    exact hK _ _ hk
end Go.Proofs.Ythicbdjambmnpaa
