/-
  What the pruned base leaves out: run_eql_pk, guard_pk.
-/

import Derived.Test.YtkmcopenflakkaaNLaw
namespace Go.Proofs.Ytkmcopenflakkaa
set_option maxRecDepth 100000
open Go.RowKit Go.Lib Go.Shelf
theorem under_pk : Try.prog.underlying 37 = some (.struct (Try.prog.fieldsOf 37)) := by kernel_rfl
theorem held_pk : Try.prog.stoodInHeld 37 = false := by kernel_rfl
theorem guard_pk : Try.prog.eqGuardType Try.prog.depth 37 = false := by kernel_rfl
theorem fields_pk : ∃ o : Nat → Nat, (Try.prog.fieldsOf 37).toList = [⟨ "Kind", 3, 0, false, "", "", o 0⟩, ⟨ "Tuple", 35, 1, false, "", "", o 1⟩, ⟨ "Flags", 3, 38, false, "", "", o 2⟩, ⟨ "Net", 3, 39, false, "", "", o 3⟩, ⟨ "Seg", 3, 40, false, "", "", o 4⟩, ⟨ "End", 3, 41, false, "", "", o 5⟩] :=
  ⟨fun i => ((Try.prog.fieldsOf 37).toList[i]?.map (·.byteOffset)).getD 0, by kernel_rfl⟩
theorem cells_tu' : Try.prog.cellsOf 35 = 37 := by kernel_rfl
theorem info_tu : ∃ i, Try.prog.info? 35 = some i := info_of_underlying Try.underlying35
theorem part_tu (w : World) {cs : List Value} {t : Tu} {o : Nat} (h : (cs.drop o).take 37 = tuL t) : (part 35 cs.toArray o).run Try.prog w = .ok (tuC t) w := by
  obtain ⟨i, hi⟩ := info_tu
  have e : cs.toArray.extract o (o + 37) = (tuL t).toArray := by
    rw [← h]; simp [List.extract_eq_take_drop]
  unfold part isAgg
  simp only [Sem.run_bind, run_underlying Try.underlying35, Result.andThen_ok, Sem.run_pure, if_true, run_sizeOf w hi, cells_tu', e, tuC]
theorem pkL_tu {p : Pk} (h : p.t.Ok) : ((pkL p).drop 1).take 37 = tuL p.t := by
  unfold pkL
  rw [List.drop_one, List.tail_cons, List.take_append_of_le_length (by rw [tuL_len h]; omega), List.take_of_length_le (by rw [tuL_len h]; omega)]
theorem run_eq_pk (w : World) {p : Pk} (h : p.t.Ok) : (Op.equalIn 10000 37 (pkC p) (pkC p)).run Try.prog w = .ok true w := by
  unfold pkC
  rw [show 10000 = 9999 + 1 from rfl, run_equalIn_agg w 9999 _ _ _ under_pk held_pk]
  obtain ⟨o, hf⟩ := fields_pk
  have et := run_eq_tu w 9995 h
  have pt := part_tu w (pkL_tu h)
  rw [hf, run_fields w 9999 _ _ (fun _ => true) _ 0 ?_]
  · simp [List.range']
  · intro j f hj
    match j, hj with
    | 0, hj => cases hj; exact ⟨show ("Kind" : String) ≠ "_" by decide, _, _, part_int w rfl, part_int w rfl, eq_int w 9998 _⟩
    | 1, hj => cases hj; exact ⟨show ("Tuple" : String) ≠ "_" by decide, _, _, pt, pt, et⟩
    | 2, hj => cases hj; exact ⟨show ("Flags" : String) ≠ "_" by decide, _, _, part_int w (pkL_num h 0), part_int w (pkL_num h 0), eq_int w 9998 _⟩
    | 3, hj => cases hj; exact ⟨show ("Net" : String) ≠ "_" by decide, _, _, part_int w (pkL_num h 1), part_int w (pkL_num h 1), eq_int w 9998 _⟩
    | 4, hj => cases hj; exact ⟨show ("Seg" : String) ≠ "_" by decide, _, _, part_int w (pkL_num h 2), part_int w (pkL_num h 2), eq_int w 9998 _⟩
    | 5, hj => cases hj; exact ⟨show ("End" : String) ≠ "_" by decide, _, _, part_int w (pkL_num h 3), part_int w (pkL_num h 3), eq_int w 9998 _⟩
theorem run_eql_pk (w : World) {p : Pk} (h : p.t.Ok) : (binOp .eql 37 (pkC p) (pkC p)).run Try.prog w = .ok (.bool true) w := by
  have := run_eq_pk w h
  unfold pkC at this ⊢
  rw [run_eql_struct, this, Result.andThen_ok]
end Go.Proofs.Ytkmcopenflakkaa
