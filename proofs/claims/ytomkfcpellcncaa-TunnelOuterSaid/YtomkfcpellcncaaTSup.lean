/-
  From a walk of a law to its statement; bytes stored into a slice of the call's own; arguments that are addresses.
-/
import Derived.Test.YtomkfcpellcncaaKOpen
import Derived.Test.YtomkfcpellcncaaKForm
import Derived.ProofKit
import Derived.OpenShut
import Derived.ShutString
import Derived.ChangeOld
namespace Go.Proofs.Ytomkfcpellcncaa
set_option maxRecDepth 100000
open Go.ChangeShapes Go.WideShapes Go.ChangeAt Go.RowKit
theorem own_knob : ownKnob Try.prog.godebug = none := by kernel_rfl
theorem laid_out : laidOutB Try.prog = true := by kernel_rfl
section
variable {H : Type} {enc : TypeId × Value → H} {P : Program} {w : World} {base : Nat} {spare : Nat → Bool} {held : Bool}
theorem trodAll_len : ∀ {ts : List TypeId} {vs : List Value} {ds : List (DataW H)} {ps : List MemPlace}, DataW.TrodAll enc P w base spare held ts vs ds ps → ds.length = ts.length ∧ vs.length = ts.length
  | [], _, _, _, h => by obtain ⟨rfl, rfl, rfl⟩ := trodAll_nil h; exact ⟨rfl, rfl⟩
  | t :: ts, _, _, _, h => by
    obtain ⟨v, vs', d, ds', p, q, rfl, rfl, rfl, h0, h1⟩ := trodAll_cons h
    obtain ⟨e1, e2⟩ := trodAll_len h1
    simp [e1, e2]
theorem trodAll_below (hl : laidOutB P = true) {W W' : World} (hb : Below W.heap.size W W') : ∀ {ts : List TypeId} {vs : List Value} {ds : List (DataW H)} {ps : List MemPlace}, ts.all (fun t => P.readableRec t && decide (t < P.types.size)) = true →
    DataW.TrodAll enc P W 0 (fun _ => true) true ts vs ds ps → (∀ x ∈ ps, x.block < W.heap.size) → DataW.TrodAll enc P W' 0 (fun b => decide (b < W.heap.size)) true ts vs ds ps
  | [], _, _, _, _, h, _ => by obtain ⟨rfl, rfl, rfl⟩ := trodAll_nil h; exact trodAll_mk0
  | t :: ts, _, _, _, hr, h, hlt => by
    obtain ⟨v, vs', d, ds', p, q, rfl, rfl, rfl, h0, h1⟩ := trodAll_cons h
    simp only [List.all_cons, Bool.and_eq_true, decide_eq_true_eq] at hr
    exact trodAll_cons_mk (Below.trod hl hr.1.1 hr.1.2 h0 hb fun x hx => hlt x (List.mem_append_left _ hx)) (trodAll_below hl hb (by simpa using hr.2) h1 fun x hx => hlt x (List.mem_append_right _ hx))
end
/-- What a law's walk has to show. -/
def WalksTrue (k : Nat) (f : Func) : Prop :=
  ∀ (H : Type) (enc : TypeId × Value → H) (W : World) (base : Nat) (args : Array Value) (ds : List (DataW H)) (p : List MemPlace),
    (∀ (j : Nat) t v, f.params[j]? = some t → args[j]? = some v → Value.okWide Try.prog W .any base t v) →
    DataW.TrodAll enc Try.prog W 0 (fun _ => true) true f.params.toList args.toList ds p →
    Calls Try.prog k args W fun e W' => e = .returned (.bool true) ∧ Below W.heap.size W W'
/-- The lift. -/
theorem law_lift {k : Nat} {f : Func} {s : ChangeSpec} (hf : Try.prog.funcs[k]? = some f) (hin : Try.prog.inits.idxOf? k = none) (hv : s.vars = []) (hres : f.resultTypes = #[4])
    (hsp : ∀ (H : Type) (ds : List (DataW H)), ds.length = f.params.toList.length → (s.fn H ds).results = [.lit (.bool true)] ∧ (s.fn H ds).args = ds ∧ (s.fn H ds).vars = [])
    (hrd : f.params.toList.all (fun t => Try.prog.readableRec t && decide (t < Try.prog.types.size)) = true)
    (hwalk : WalksTrue k f) (os : Os) (started : os.Started) (H : Type) (enc : TypeId × Value → H)
    (witness : ∃ (w : World) (tape : Tape) (i : Input), w.os = os ∧ (w.forCall tape i).Shaped Try.checked.prog ∧ i.vars = [] ∧ Input.okWide Try.checked.prog (w.forCall tape i) .any w.heap.size k i ∧
      s.pre6 enc Try.checked.prog f [] false (w.forCall tape i).memory i.args ∧ ({} : Assume).holds Try.checked.prog (lone (Frame.enter Try.checked.prog k i.args .normal) [] (w.forCall tape i))) :
    ReturnsInHanded {} Try.checked os k .any (s.pre6 enc Try.prog f [] false) (s.post enc Try.prog f false true false false) := by
  refine returnsInHanded_of_change (C := Try.checked) own_knob started hin hf witness ?_
  intro W base args ds gs before hval hW _ _
  have hW' := hW
  obtain ⟨p, q, hA, hV, rfl, hfz, hnd⟩ := hW
  rw [hv] at hV
  obtain ⟨rfl, rfl⟩ := trodVars_none hV
  have hlt : ∀ x ∈ p, x.block < W.heap.size := fun x hx => hW'.lt x (by simpa using hx)
  refine (hwalk H enc W base args ds p hval hA).mono fun e W' ⟨he, bel⟩ => ?_
  subst he
  obtain ⟨r1, r2, r3⟩ := hsp H (ds ++ []) (by rw [List.append_nil]; exact (trodAll_len hA).1)
  refine ⟨_, rfl, ds, [], _, [], p, [], hW', ?_, ?_, ?_, bel.frame _, fun h => by cases h⟩
  · rw [r1, hres]
    exact trodAll_mk1 (shut_bool Try.underlying4 _)
  · rw [r2, List.append_nil]
    exact trodAll_below laid_out bel hrd hA hlt
  · rw [hv, r3]
    rfl
/-- A slice of bytes that reads as data reads as a list. -/
theorem rd_of_trod {H : Type} {enc : TypeId × Value → H} {W : World} {fuel : Nat} {A : Option Addr} {len cap : Nat} {y : DataW H × List MemPlace} (hf : DataW.trod enc Try.prog W 0 (fun _ => true) true fuel 22 [.slice A len cap] = some y) :
    ∃ A' len' cap' xs, Value.slice A len cap = .slice A' len' cap' ∧ len' ≤ cap' ∧ cap' ≤ maxLen ∧ Rd W W.heap.size A' len' xs := by
  rcases open_ints Try.underlying22 Try.underlying5 (by kernel_rfl) hf with ⟨hcs, _⟩ | ⟨x, l, c, zs, hcs, _, hl, hm, hz, _, hcell, hwz⟩
  · simp at hcs
    obtain ⟨rfl, rfl, rfl⟩ := hcs
    exact ⟨none, 0, 0, [], rfl, by omega, by unfold maxLen; omega, Rd.nil_ _⟩
  · simp at hcs
    obtain ⟨rfl, rfl, rfl⟩ := hcs
    have hz' : zs.length = cap := by simpa using hz
    refine ⟨_, len, cap, (zs.take len).map fun n => UInt8.ofNat n.toNat, rfl, hl, hm, by simp; omega, fun h0 => ?_⟩
    obtain ⟨b, off, spot⟩ := x
    have hc0 := hcell 0 (by omega)
    have hspot : spot = none := by simpa [Addr.add] using World.cell?_spot hc0
    subst hspot
    have hc0' := hcell 0 (by omega)
    rw [add_plain] at hc0'
    refine ⟨b, off, rfl, World.block_lt_of_cell? W _ hc0', fun j y hy => ?_⟩
    have hj : j < len := by
      rcases Nat.lt_or_ge j len with h | h
      · exact h
      · rw [List.getElem?_eq_none (by simp; omega)] at hy; cases hy
    have hcj := hcell j (by omega)
    rw [add_plain] at hcj
    rw [hcj]
    have hjz : j < zs.length := by omega
    have hw := hwz (zs.getD j 0) (by simp [List.getD, hjz])
    simp [Lit.wf, IntKind.min, IntKind.max, IntKind.signed, IntKind.bits] at hw
    simp [hj, hjz] at hy
    subst hy
    simp [hjz] at hw ⊢
    unfold v8
    congr 1
    rw [UInt8.toNat_ofNat']
    omega
/-- A slice of bytes that came in. -/
theorem open_bytes {H : Type} {enc : TypeId × Value → H} {W : World} {r : Reach} {b0 : Nat} {v : Value} {d : DataW H} {ps : List MemPlace} (hv : Value.okWide Try.prog W r b0 22 v) (hd : DataW.Trod enc Try.prog W 0 (fun _ => true) true 22 v d ps) :
    ∃ A len cap xs, v = .slice A len cap ∧ len ≤ cap ∧ cap ≤ maxLen ∧ Rd W W.heap.size A len xs := by
  obtain ⟨A, len, cap, rfl⟩ := okWide_slice Try.underlying22 hv
  obtain ⟨fuel, hf⟩ := hd
  exact rd_of_trod hf
theorem range_u64 {n : Int} (h : (Lit.int .u64 n).wf = true) : 0 ≤ n ∧ n < 18446744073709551616 := by
  simp [Lit.wf, IntKind.min, IntKind.max, IntKind.signed, IntKind.bits] at h; omega
theorem range_i64 {n : Int} (h : (Lit.int .i64 n).wf = true) : -9223372036854775808 ≤ n ∧ n ≤ 9223372036854775807 := by
  simp [Lit.wf, IntKind.min, IntKind.max, IntKind.signed, IntKind.bits] at h; omega
theorem range_u32 {n : Int} (h : (Lit.int .u32 n).wf = true) : 0 ≤ n ∧ n < 4294967296 := by
  simp [Lit.wf, IntKind.min, IntKind.max, IntKind.signed, IntKind.bits] at h; omega
theorem range_u16 {n : Int} (h : (Lit.int .u16 n).wf = true) : 0 ≤ n ∧ n < 65536 := by
  simp [Lit.wf, IntKind.min, IntKind.max, IntKind.signed, IntKind.bits] at h; omega
end Go.Proofs.Ytomkfcpellcncaa
namespace Go.Proofs.Ytomkfcpellcncaa
set_option maxRecDepth 100000
section
open Go.RowKit Go.Lib
theorem xor8 (x y : UInt8) : bits .xor .u8 (x.toNat : Int) (y.toNat : Int) = ((x ^^^ y).toNat : Int) := by
  rw [u8_xor_nat _ _ x.toNat_lt y.toNat_lt, UInt8.toNat_xor]
/-- A byte stored into an owned slice: only its block changes. -/
theorem wpList_storeOG {w : World} {ops : Array Oper} {rest : List Oper} {op : Oper} {a : Act} {Q : Exit → Act → World → Prop} (hgd : op.guard = none) (x y : Operand) (ho : op.op = .store 5 x y)
    (g i : Nat) (hx : a.eval x = .pointer (some ⟨g, i, none⟩)) (b : UInt8) (m : Int) (hm : m = (b.toNat : Int)) (hy : a.eval y = .int .u8 m) (xs : List UInt8) (n c base : Nat) (hn : xs.length = n) (hown : Own8 w base (.slice (some ⟨g, 0, none⟩) n c) xs) (hi : i < n)
    (h : ∀ w', Own8 w' base (.slice (some ⟨g, 0, none⟩) n c) (xs.set i b) → w.grownBy w' (some g) → wpList Try.prog ops Q rest (a.put op.dst undef) w') : wpList Try.prog ops Q (op :: rest) a w := by
  subst hm
  subst hn
  refine wpList_plain hgd fun K hK => ?_
  have hc := hown.cellAt i (by omega)
  have hf := hown.frozenAt i
  have hs := (hown.stored i (v8 b)).1
  rw [List.getElem?_map, List.getElem?_eq_getElem hi] at hc
  have ho2 : Own8 (w.setCell ⟨g, i, none⟩ (v8 b)) base (.slice (some ⟨g, 0, none⟩) xs.length c) (xs.set i b) := by
    unfold Own8
    rw [List.length_set, List.map_set]
    exact hs
  have hk := h _ ho2 (gb_set (World.grownBy.refl w (some g)) i (v8 b))
  unfold v8 at hc hk
  simp only [Option.map_some] at hc
  unfold Oper.wp execOp
  simp only [ho, hx, hy]
  clear h hs ho2
  go_simp
  exact hK _ _ hk
/-- A byte of an owned slice. -/
theorem Own8.byte {w : World} {base g n c : Nat} {xs : List UInt8} (h : Own8 w base (.slice (some ⟨g, 0, none⟩) n c) xs) {i : Nat} {x : UInt8} (hx : xs[i]? = some x) : w.cell? ⟨g, i, none⟩ = some (.int .u8 (x.toNat : Int)) := by
  have hi : i < xs.length := (List.getElem?_eq_some_iff.1 hx).1
  have hn : n = xs.length := by
    obtain ⟨A', c', e, _⟩ := h.rd
    cases e
    rfl
  subst hn
  have hc := h.cellAt i (by omega)
  rw [List.getElem?_map, hx] at hc
  exact hc
end
open Go.RowKit Go.Lib Go.ChangeShapes Go.WideShapes Go.ChangeAt
section
variable {H : Type} {enc : TypeId × Value → H} {W : World}
theorem cells_ad : Try.prog.cellsOf 25 = 17 := by kernel_rfl
/-- An argument that is an address. -/
theorem open_ad {r : Reach} {b0 : Nat} {v : Value} {d : DataW H} {ps : List MemPlace} (hv : Value.okWide Try.prog W r b0 25 v) (hd : DataW.Trod enc Try.prog W 0 (fun _ => true) true 25 v d ps) :
    ∃ a, v = adC a ∧ a.b.length = 16 := by
  obtain ⟨cs, rfl, hcs⟩ := okWide_struct Try.underlying25 hv
  rw [cells_ad] at hcs
  obtain ⟨fuel, hf⟩ := hd
  obtain ⟨a, la, ca⟩ := ad_cells hf
  refine ⟨a, ?_, la⟩
  show Value.agg cs = .agg (adL a).toArray
  congr 1
  have : cs.toList = adL a := by
    apply List.ext_getElem?
    intro i
    by_cases hi : i < 17
    · exact ca i hi
    · rw [List.getElem?_eq_none (by simp; omega), List.getElem?_eq_none (by rw [adL_len la]; omega)]
  rw [← this]
end
end Go.Proofs.Ytomkfcpellcncaa
