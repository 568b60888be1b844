/-
  Whole healths: loaded, compared, stored; the document's Same.
-/
import Derived.Test.YteljijjebocbiaaYRef1
namespace Go.Proofs.Yteljijjebocbiaa
set_option maxRecDepth 100000
open Go.RowKit Go.Lib

def hlB (a b : Hl) : Bool := (a.nm == b.nm) && ((a.dn == b.dn) && (a.run == b.run))
theorem hlB_iff {a b : Hl} : hlB a b = true ↔ a = b := by
  obtain ⟨n1, d1, r1⟩ := a
  obtain ⟨n2, d2, r2⟩ := b
  unfold hlB
  simp
theorem plain_string : Try.prog.plainKey 9 = true := by kernel_rfl
theorem part_string (w : World) {cs : List Value} {v : Value} {o : Nat} (h : cs[o]? = some v) : (part 9 cs.toArray o).run Try.prog w = .ok v w := run_part_plain w plain_string (by simpa using h)
theorem under_hl : Try.prog.underlying 23 = some (.struct (Try.prog.fieldsOf 23)) := by kernel_rfl
theorem held_hl : Try.prog.stoodInHeld 23 = false := by kernel_rfl
theorem guard_hl : Try.prog.eqGuardType Try.prog.depth 23 = false := by kernel_rfl
theorem fields_hl : ∃ o : Nat → Nat, (Try.prog.fieldsOf 23).toList = [⟨ "Name", 9, 0, false, "", "", o 0⟩, ⟨ "Down", 4, 1, false, "", "", o 1⟩, ⟨ "Run", 3, 2, false, "", "", o 2⟩] :=
  ⟨fun i => ((Try.prog.fieldsOf 23).toList[i]?.map (·.byteOffset)).getD 0, by kernel_rfl⟩
theorem run_eq_hl (w : World) (a b : Hl) : (Op.equalIn 10000 23 (.agg (hlL a).toArray) (.agg (hlL b).toArray)).run Try.prog w = .ok (hlB a b) w := by
  have e0 : (Op.equalIn 9999 9 (strV a.nm) (strV b.nm)).run Try.prog w = .ok (a.nm == b.nm) w := by
    unfold strV
    rw [show 9999 = 9998 + 1 from rfl, run_equalIn_string w 9998 9 _ _ Try.underlying9, ByteArray.toList_mk, ByteArray.toList_mk]
  have e1 : (Op.equalIn 9999 4 (.bool a.dn) (.bool b.dn)).run Try.prog w = .ok (a.dn == b.dn) w := run_equalIn_bool' w 9998 4 a.dn b.dn Try.underlying4
  have e2 : (Op.equalIn 9999 3 (.int .i64 a.run) (.int .i64 b.run)).run Try.prog w = .ok (a.run == b.run) w := run_equalIn_int w 9998 3 .i64 _ a.run b.run Try.underlying3
  rw [show 10000 = 9999 + 1 from rfl, run_equalIn_agg w 9999 _ _ _ under_hl held_hl]
  obtain ⟨o, hf⟩ := fields_hl
  rw [hf, run_fields w 9999 _ _ (fun i => if i = 0 then a.nm == b.nm else if i = 1 then a.dn == b.dn else a.run == b.run) _ 0 ?_]
  · simp [List.range', hlB]
  · intro j f hj
    match j, hj with
    | 0, hj => cases hj; exact ⟨show ("Name" : String) ≠ "_" by decide, _, _, part_string w rfl, part_string w rfl, e0⟩
    | 1, hj => cases hj; exact ⟨show ("Down" : String) ≠ "_" by decide, _, _, part_bool w rfl, part_bool w rfl, e1⟩
    | 2, hj => cases hj; exact ⟨show ("Run" : String) ≠ "_" by decide, _, _, part_int w rfl, part_int w rfl, e2⟩
theorem run_eql_hl (a b : Hl) (w : World) : (binOp .eql 23 (.agg (hlL a).toArray) (.agg (hlL b).toArray)).run Try.prog w = .ok (.bool (hlB a b)) w := by
  rw [run_eql_struct, run_eq_hl, Result.andThen_ok]
theorem run_neq_hl (a b : Hl) (w : World) : (binOp .neq 23 (.agg (hlL a).toArray) (.agg (hlL b).toArray)).run Try.prog w = .ok (.bool (!hlB a b)) w := by
  rw [run_neq_struct, run_eq_hl, Result.andThen_ok]
theorem yields_neqH {ops : Array Oper} {S : World → Prop} {op : Oper} {a : Act} (hw : Region.wanted op (yielded ops a.tmps) = true) (T k : TypeId) (x y : Operand) (ho : op.op = .binOp .neq T x y k)
    (xs ys : Array Value) (hx : a.eval x = .agg xs) (hy : a.eval y = .agg ys) (hm : Try.prog.eqGuardType Try.prog.depth T = false) (r : Bool) (hr : ∀ w, (binOp .neq T (.agg xs) (.agg ys)).run Try.prog w = .ok (.bool r) w) : YieldsIf Try.prog ops S op (.bool r) a :=
  .inl ⟨hw, fun w _ => by
    unfold execOp
    simp only [ho, hx, hy, Sem.run_bind, run_eqGuard_agg w .neq T x y xs ys hm, Result.andThen_ok, hr, Sem.run_pure]⟩
theorem wpList_eqlH {w : World} {ops : Array Oper} {rest : List Oper} {op : Oper} {a : Act} {Q : Exit → Act → World → Prop} (k : TypeId) (x y : Operand) (ho : op.op = .binOp .eql 23 x y k) (hw : Region.wanted op (yielded ops a.tmps) = true)
    (p q : Hl) (hx : a.eval x = hlC p) (hy : a.eval y = hlC q)
    (hk : wpList Try.prog ops Q rest (a.put op.dst (.bool (hlB p q))) w) : wpList Try.prog ops Q (op :: rest) a w :=
  BigFrame.wpList_want hw fun K hK => by
    unfold Oper.wp execOp
    have hx' : a.eval x = .agg (hlL p).toArray := hx
    have hy' : a.eval y = .agg (hlL q).toArray := hy
    simp only [ho, hx', hy', Sem.run_bind, run_eqGuard_agg w .eql 23 x y _ _ guard_hl, Result.andThen_ok, run_eql_hl, Sem.run_pure]
    exact hK _ _ hk
theorem wpList_loadHl {w : World} {ops : Array Oper} {rest : List Oper} {op : Oper} {a : Act} {Q : Exit → Act → World → Prop} (x : Operand) (ho : op.op = .load 23 x) (hw : Region.wanted op (yielded ops a.tmps) = true)
    (g o : Nat) (hx : a.eval x = .pointer (some ⟨g, o, none⟩)) (b : Hl) (hb : w.rangeAt g o (hlL b)) (C : Array Value) (hC : (hlL b).toArray = C)
    (hk : wpList Try.prog ops Q rest (a.put op.dst (.agg C)) w) : wpList Try.prog ops Q (op :: rest) a w := by
  subst hC
  exact BigFrame.wpList_want hw fun _ hK => wp_load_mid 23 x ho g o hx (hlL b) _ hb Try.underlying23 rfl hlSize (hK _ _ hk)
/-- The same healths? -/
def sameH : List Hl → List Hl → Bool
  | [], [] => true
  | a :: l, b :: m => hlB a b && sameH l m
  | _, _ => false
theorem sameH_iff : ∀ {l m : List Hl}, sameH l m = true ↔ l = m
  | [], [] => by simp [sameH]
  | [], _ :: _ => by simp [sameH]
  | _ :: _, [] => by simp [sameH]
  | a :: l, b :: m => by
    unfold sameH
    rw [Bool.and_eq_true, hlB_iff, sameH_iff, List.cons.injEq]
set_option maxHeartbeats 8000000 in
theorem rsameH_any {A A' : Option Addr} {n n' B B' : Nat} (c c' : Nat) {l m : List Hl} (hn : n ≤ 9223372036854775807) (w : World) (hB : B ≤ w.heap.size) (hB' : B' ≤ w.heap.size) (h : RdG eH w B A n l) (h' : RdG eH w B' A' n' m) :
    Calls Try.prog 18 #[.slice A n c, .slice A' n' c'] w fun e w' => e = .returned (.bool (sameH l m)) ∧ Below w.heap.size w w' := by
  have HR := Lib.hid h
  have HR2 := Lib.hid h'
  have HL := Lib.hid h.len
  have HL2 := Lib.hid h'.len
  have HBB := Lib.hid hB
  have HBB2 := Lib.hid hB'
  obtain ⟨R, hRR⟩ : ∃ R, sameH l m = R := ⟨_, rfl⟩
  rw [hRR]
  have HF := Lib.hid hRR
  clear h h' hRR hB hB'
  by_cases hnn : n = n'
  case neg =>
    have h1 : ((n : Int) != (n' : Int)) = true := by
      rw [bne_iff_ne]
      omega
    have hf : R = false := by
      rw [← HF.out]
      exact Bool.eq_false_iff.2 (fun e => hnn (by rw [← HL.out, ← HL2.out, sameH_iff.1 e]))
    subst hf
    clear hnn
    go_enter Try.func18, Try.ntmps18
    go_wp2_with fail
    go_ret
    exact ⟨rfl, Below.refl _ _⟩
  subst hnn
  have hnn : ((n : Int) != (n : Int)) = false := by simp
  go_enter Try.func18, Try.ntmps18
  go_wp2_with fail
  go_loopw [5] (fun i wr => ∃ k : Nat, k ≤ n ∧ i = .int .i64 (k : Int) ∧ Hid (∀ j, j < k → l[j]? = m[j]?) ∧ Hid (Below w.heap.size w wr))
    (fun i _ => n - (intOf i).toNat)
  case atStart => exact ⟨0, Nat.zero_le _, rfl, Lib.hid (fun j hj => absurd hj (by omega)), Lib.hid (Below.refl _ _)⟩
  case round =>
    obtain ⟨k, hk, rfl, HAL, HBE⟩ := hrel
    by_cases hlt : k < n
    · have h1 : (k : Int) < (n : Int) := by omega
      have h0 : (0 : Int) ≤ (k : Int) := by omega
      obtain ⟨b, off, rfl, _⟩ := HR.out.addr (by omega)
      obtain ⟨b', off', rfl, _⟩ := HR2.out.addr (by omega)
      obtain ⟨x, hx⟩ : ∃ x, l[k]? = some x := ⟨_, List.getElem?_eq_getElem (by rw [HL.out]; exact hlt)⟩
      obtain ⟨y, hy⟩ : ∃ y, m[k]? = some y := ⟨_, List.getElem?_eq_getElem (by rw [HL2.out]; exact hlt)⟩
      have RX : Hid (∀ W, Below w.heap.size w W → W.rangeAt b (off + k * 3) (hlL x)) := Lib.hid (fun W hW => (HR.out.below (hW.mono HBB.out)).range hx)
      have RY : Hid (∀ W, Below w.heap.size w W → W.rangeAt b' (off' + k * 3) (hlL y)) := Lib.hid (fun W hW => (HR2.out.below (hW.mono HBB2.out)).range hy)
      have HXX := Lib.hid hx
      have HYY := Lib.hid hy
      have HLT := Lib.hid hlt
      have hk9 : k < 9223372036854775807 := by omega
      obtain ⟨LX, hLX⟩ : ∃ L, (hlL x).toArray = L := ⟨_, rfl⟩
      obtain ⟨LY, hLY⟩ : ∃ L, (hlL y).toArray = L := ⟨_, rfl⟩
      obtain ⟨f, hf⟩ : ∃ f, hlB x y = f := ⟨_, rfl⟩
      have HNQ : Hid (∀ W : World, (binOp .neq 23 (.agg LX) (.agg LY)).run Try.prog W = .ok (.bool (!f)) W) := Lib.hid (by rw [← hLX, ← hLY, ← hf]; exact run_neq_hl x y)
      have HLX := Lib.hid hLX
      have HLY := Lib.hid hLY
      have HFF := Lib.hid hf
      clear hx hy hlt hLX hLY hf
      go_upto_region 6 with (fail)
      refine wp_region_held_drew (S := fun W => Below w.heap.size w W) (by kernel_rfl) (HBE.out.drew) (fun hHeld => ?_)
      refine tk 0 17 (.slice (some ⟨b, off, none⟩) n c) rfl hHeld ?_
      simp only [Act.put, sA, sZ, sS]
      refine tk 1 18 (.int .i64 (k : Int)) rfl hHeld ?_
      simp only [Act.put, sA, sZ, sS]
      refine tk 2 19 (.pointer (some ⟨b, off + k * 3, none⟩)) rfl hHeld ?_
      simp only [Act.put, sA, sZ, sS]
      refine tkY 3 20 (.agg LX) rfl (by rw [← HLX.out]; exact yieldsIf_load_mid (by rfl) 23 _ rfl b (off + k * 3) (by rfl) (hlL x) _ RX.out Try.underlying23 rfl hlSize) hHeld ?_
      simp only [Act.put, sA, sZ, sS]
      refine tk 4 21 (.slice (some ⟨b', off', none⟩) n c') rfl hHeld ?_
      simp only [Act.put, sA, sZ, sS]
      refine tk 5 22 (.int .i64 (k : Int)) rfl hHeld ?_
      simp only [Act.put, sA, sZ, sS]
      refine tk 6 23 (.pointer (some ⟨b', off' + k * 3, none⟩)) rfl hHeld ?_
      simp only [Act.put, sA, sZ, sS]
      refine tkY 7 24 (.agg LY) rfl (by rw [← HLY.out]; exact yieldsIf_load_mid (by rfl) 23 _ rfl b' (off' + k * 3) (by rfl) (hlL y) _ RY.out Try.underlying23 rfl hlSize) hHeld ?_
      simp only [Act.put, sA, sZ, sS]
      refine tkY 8 25 (.bool (!f)) rfl (yields_neqH (by rfl) 23 _ _ _ rfl LX LY (by rfl) (by rfl) guard_hl (!f) HNQ.out) hHeld ?_
      simp only [Act.put, sA, sZ, sS]
      refine wpAnyH_done (by kernel_rfl) ?_ _
      have HB9 := Lib.hid hHeld
      clear hHeld
      cases f
      · have hf : R = false := by
          rw [← HF.out]
          refine Bool.eq_false_iff.2 (fun e => ?_)
          have e2 := HXX.out
          rw [sameH_iff.1 e, HYY.out] at e2
          have e3 := HFF.out
          rw [← Option.some.inj e2, hlB_iff.2 rfl] at e3
          cases e3
        subst hf
        go_wp2_with fail
        go_ret
        exact ⟨rfl, HB9.out⟩
      · go_wp2_with fail
        go_roundw
        case rel => exact ⟨k + 1, HLT.out, (by have := HLT.out; go_num), Lib.hid (fun j hj => by
          by_cases e : j = k
          · subst e
            rw [HXX.out, HYY.out, hlB_iff.1 HFF.out]
          · exact HAL.out j (by omega)), HB9⟩
        case measure =>
          have := HLT.out
          simp [intOf]
          omega
    · obtain rfl : k = n := by omega
      have h1 : ¬ (k : Int) < (k : Int) := by omega
      have hf : R = true := by
        rw [← HF.out]
        exact sameH_iff.2 (list_same (by rw [HL.out, HL2.out]) (fun j hj => HAL.out j (by rw [← HL.out]; exact hj)))
      subst hf
      clear hlt hk
      go_wp2_with fail
      go_ret
      exact ⟨rfl, HBE.out⟩
end Go.Proofs.Yteljijjebocbiaa
