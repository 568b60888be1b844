/-
  The contracts of port's small functions: num, head, lay, Place, and of what it calls; of the document's two and Place, of the statements' proto.
-/
import Derived.Test.YtgjjepcjdekihaaPMath
import Derived.Test.YtgjjepcjdekihaaFRef
import Derived.Deep.QuietTactic
import Derived.Deep.RegionLaw
import Derived.BigQuiet
import Derived.Lib.VarintBits
import Derived.Laws.CopyOwn
namespace Go.Proofs.Ytgjjepcjdekihaa
open Go.RowKit Go.Lib

theorem size8 : (Try.prog.info? 5).map (·.size) = some 1 := by kernel_rfl
/-- The row of an owned slice. -/
theorem Own8.row {w : World} {base g N C : Nat} {ys : List UInt8} (h : Own8 w base (.slice (some ⟨g, 0, none⟩) N C) ys) :
    ∃ L : List Value, w.heap[g]? = some (.cells L.toArray 5 (0, 0)) ∧ L.length = C ∧ N ≤ C ∧ C ≤ maxLen ∧ base ≤ g ∧ L.take N = ys.map v8 := by
  obtain ⟨hl, h⟩ := h
  rcases h with ⟨e, _⟩ | ⟨g', cap, cur, e, hb, hg, hn, hm, hs, ht⟩
  · cases e
  · obtain ⟨rfl, hN, rfl⟩ : g = g' ∧ N = ys.length ∧ C = cap := by cases e; exact ⟨rfl, rfl, rfl⟩
    subst hN
    exact ⟨cur.toList, by simpa using hg, by simpa using hs, hn, hm, hb, by simpa using ht⟩
theorem Own8.ofRow {w : World} {base g N C : Nat} {ys : List UInt8} {L : List Value} (hg : w.heap[g]? = some (.cells L.toArray 5 (0, 0))) (hl : L.length = C) (hn : N ≤ C) (hm : C ≤ maxLen) (hb : base ≤ g) (ht : L.take N = ys.map v8) (hN : ys.length = N) :
    Own8 w base (.slice (some ⟨g, 0, none⟩) N C) ys := by
  subst hN
  exact ⟨by simp, .inr ⟨g, C, L.toArray, rfl, hb, hg, hn, hm, by simpa using hl, by simpa using ht⟩⟩
theorem splice_len (L : List Value) (off : Nat) (ds : List Value) (h : off + ds.length ≤ L.length) : (splice L off ds).length = L.length := by
  unfold splice
  rw [List.length_append, List.length_append, List.length_take, List.length_drop]
  omega
theorem splice_put2 {L : List Value} {N off : Nat} {ys : List UInt8} (h : L.take N = ys.map v8) (hN : ys.length = N) (n : Nat) (ho : off + 2 ≤ N) : (splice L off ((be2 n).map v8)).take N = (put2 ys off n).map v8 := by
  have e : L = ys.map v8 ++ L.drop N := by rw [← h, List.take_append_drop]
  have e1 : L.take off = (ys.map v8).take off := by rw [e, List.take_append_of_le_length (by rw [List.length_map]; omega)]
  have e2 : L.drop (off + 2) = (ys.map v8).drop (off + 2) ++ L.drop N := by
    conv => lhs; rw [e]
    rw [List.drop_append_of_le_length (by rw [List.length_map]; omega)]
  rw [put2_eq ys off n (by omega)]
  unfold splice
  rw [List.length_map, be2_len, e1, e2, ← List.append_assoc, ← List.append_assoc,
    List.take_append_of_le_length (by simp only [List.length_append, List.length_take, List.length_drop, List.length_map, be2_len]; omega),
    List.take_of_length_le (by simp only [List.length_append, List.length_take, List.length_drop, List.length_map, be2_len]; omega)]
  simp [List.map_take, List.map_drop]
theorem Rd.cellD {w : World} {B n : Nat} {xs : List UInt8} {b off : Nat} (h : Rd w B (some ⟨b, off, none⟩) n xs) {k : Nat} (hk : k < n) : w.cell? ⟨b, off + k, none⟩ = some (.int .u8 (batN xs k : Int)) := by
  have := h.cell hk
  unfold batN
  rw [List.getD, List.getElem?_eq_getElem (by rw [h.len]; exact hk)]
  exact this

set_option maxHeartbeats 1000000 in
theorem num_any {A : Option Addr} {len : Nat} {cap p : Nat} {xs : List UInt8} (z : Int) (hz : z = (p : Int)) (hlen : len ≤ 1000000000) (hcap : len ≤ cap) (hcap2 : cap ≤ maxLen) (h : p + 2 ≤ len) {w : World} (hI : Rd w w.heap.size A len xs) :
    Calls Try.prog 22 #[.slice A len cap, .int .i64 z] w fun e w' => e = .returned (.int .i64 (wat xs p : Nat)) ∧ Below w.heap.size w w' := by
  subst hz
  have hcut := run_cut8 A len cap p 2 (p : Int) ((p : Int) + 2) rfl (by omega) (by omega)
  have hr := hI.cut (l := p) (n := 2) h cap hcap
  have hg := get_any (cutA A cap p) 2 (cap - p) ((xs.drop p).take 2) true (by omega) (by omega) (by omega) w hr
  have e : getOf ((xs.drop p).take 2) true = wat xs p := by
    rw [← wat_num xs p (by rw [hI.len]; exact h)]
    unfold getOf
    rw [if_pos rfl, List.take_of_length_le (i := 8) (by rw [List.length_take]; omega)]
  rw [e] at hg
  have hlt := wat_lt xs p
  obtain ⟨n, hn⟩ : ∃ n, wat xs p = n := ⟨_, rfl⟩
  rw [hn] at hg hlt ⊢
  have HG := Lib.hid hg
  have hw : IntKind.i64.wrap ((p : Int) + 2) = (p : Int) + 2 := by rw [IntKind.wrap_i64]; omega
  clear hg e hn hr hI
  go_enter Try.func22, Try.ntmps22
  go_wp2_with fail
  refine HG.out.mono ?_
  rintro e w1 ⟨rfl, hb⟩
  go_wp2_with fail
  go_ret
  exact ⟨rfl, hb⟩


set_option maxHeartbeats 1000000 in
theorem head_any {A : Option Addr} {len : Nat} {cap : Nat} {xs : List UInt8} (h : 20 ≤ len) {w : World} {B : Nat} (hI : Rd w B A len xs) :
    Calls Try.prog 23 #[.slice A len cap] w fun e w' => e = .returned (.int .i64 (hlN xs : Nat)) ∧ w = w' := by
  obtain ⟨b, off, rfl, _⟩ := hI.addr (by omega)
  have c0 := hI.cellD (k := 12) (by omega)
  have hx := batN_lt xs 12
  have e : (hlN xs : Nat) = 4 * (batN xs 12 / 16) := rfl
  generalize batN xs 12 = x at *
  obtain ⟨r, hr⟩ : ∃ r, hlN xs = r := ⟨_, rfl⟩
  rw [hr] at e ⊢
  have E : ((r : Nat) : Int) = (x : Int) / 16 * 4 := by omega
  have hw : IntKind.i64.wrap ((x : Int) / 16 * 4) = (x : Int) / 16 * 4 := by rw [IntKind.wrap_i64]; omega
  have hw2 : IntKind.i64.wrap ((x : Int) / 16) = (x : Int) / 16 := by rw [IntKind.wrap_i64]; omega
  have l0 : (12 : Int) < (len : Int) := by omega
  have HE := Lib.hid E
  clear E e hr hI
  go_enter Try.func23, Try.ntmps23
  go_wp2_with fail
  go_ret
  exact ⟨by rw [HE.out]; rfl, rfl⟩

set_option maxHeartbeats 1000000 in
theorem two_any {A : Option Addr} {len : Nat} {cap p : Nat} {xs : List UInt8} (hp : p ≤ 1000) (h : p + 2 ≤ len) {w : World} {B : Nat} (hI : Rd w B A len xs) :
    Calls Try.prog 24 #[.slice A len cap, .int .i64 (p : Int)] w fun e w' => e = .returned (.int .i64 (wat xs p : Nat)) ∧ ∃ n, w' = w.drewN n := by
  obtain ⟨b, off, rfl, _⟩ := hI.addr (by omega)
  have c0 := hI.cellD (k := p) (by omega)
  have c1 := hI.cellD (k := p + 1) (by omega)
  have x0 := batN_lt xs p
  have x1 := batN_lt xs (p + 1)
  have e : (wat xs p : Nat) = 256 * batN xs p + batN xs (p + 1) := rfl
  generalize batN xs p = a at *
  generalize batN xs (p + 1) = c at *
  obtain ⟨r, hr⟩ : ∃ r : Nat, wat xs p = r := ⟨_, rfl⟩
  rw [hr] at e ⊢
  have E : ((r : Nat) : Int) = 256 * (a : Int) + (c : Int) := by omega
  have hw1 : IntKind.i64.wrap ((p : Int) + 1) = (p : Int) + 1 := by rw [IntKind.wrap_i64]; omega
  have hw2 : IntKind.i64.wrap (256 * (a : Int)) = 256 * (a : Int) := by rw [IntKind.wrap_i64]; omega
  have hw3 : IntKind.i64.wrap (256 * (a : Int) + (c : Int)) = 256 * (a : Int) + (c : Int) := by rw [IntKind.wrap_i64]; omega
  have hw4 : IntKind.i64.wrap (a : Int) = (a : Int) := by rw [IntKind.wrap_i64]; omega
  have hw5 : IntKind.i64.wrap (c : Int) = (c : Int) := by rw [IntKind.wrap_i64]; omega
  have l1 : (p : Int) < (len : Int) := by omega
  have l2 : (p : Int) + 1 < (len : Int) := by omega
  have t1 : ((p : Int) + 1).toNat = p + 1 := by omega
  have HE := Lib.hid E
  clear E e hr hI
  go_enter Try.func24, Try.ntmps24
  go_wp2_with fail
  go_quiet (fail)
  go_wp2_with fail
  go_ret
  exact ⟨by rw [HE.out]; rfl, _, rfl⟩

/-- slices.Clone[[]byte,byte] -/
theorem clone_any (A : Option Addr) (len cap : Nat) (xs : List UInt8) (hlen : len ≤ 1000000000) (w : World) {B : Nat} (hI : Rd w B A len xs) (hB : B ≤ w.heap.size) :
    Calls Try.prog 28 #[.slice A len cap] w fun e W' => ∃ v, e = .returned v ∧ Own8 W' w.heap.size v xs ∧ Below w.heap.size w W' := by
  have hI := hI.more hB
  cases A with
  | none =>
    have h0 : len = 0 := by
      rcases Nat.eq_zero_or_pos len with h | h
      · exact h
      · obtain ⟨b, off, e, _⟩ := hI.addr h; cases e
    subst h0
    have hx : xs = [] := List.eq_nil_of_length_eq_zero hI.len
    subst hx
    have hq : ∀ W : World, (binOp .eql 22 (.slice none 0 cap) (.slice none 0 0)).run Try.prog W = .ok (.bool true) W := fun W => run_eql_slice_nil W _ _ none 0 cap 0 0 Try.underlying22
    clear hI
    go_enter Try.func28, Try.ntmps28
    go_wp2
    go_ret
    exact ⟨_, rfl, Own8.nil_ _ _, Below.refl _ _⟩
  | some ad =>
    have how := empty8 (base := w.heap.size) w (Nat.le_refl _)
    have HL := Lib.hid hI.len
    have hq : ∀ W : World, (binOp .eql 22 (.slice (some ad) len cap) (.slice none 0 0)).run Try.prog W = .ok (.bool false) W := fun W => run_eql_slice_nil W _ _ (some ad) len cap 0 0 Try.underlying22
    go_enter Try.func28, Try.ntmps28
    go_wp2_with (at_builtin; refine wpList_append8 rfl _ _ rfl w.heap.size _ [] (by rfl) how _ _ _ _ xs (by rfl) (hI.alloc (Nat.le_refl _) _) (by simp; omega) (by simp) ?_; intro v' w1 hown' hgrow _)
    go_ret
    have hb : Below w.heap.size w w1 := ((Below.refl _ w).alloc (Nat.le_refl _) (.cells #[] 5)).grown hgrow (by simp) how.lt
    exact ⟨_, rfl, hown', hb⟩

set_option maxHeartbeats 1000000 in
theorem lay_any (n : Nat) (hn : n < 65536) {w : World} {g N C base : Nat} {ys : List UInt8} (hown : Own8 w base (.slice (some ⟨g, 0, none⟩) N C) ys) (hN : ys.length = N) (off : Nat) (h1 : off + 2 ≤ N) (z y : Int) (hz : z = (off : Int)) (hy : y = (n : Int)) :
    Calls Try.prog 29 #[.slice (some ⟨g, 0, none⟩) N C, .int .i64 z, .int .u16 y] w fun e w' => e = .returned (.tuple #[]) ∧ Own8 w' base (.slice (some ⟨g, 0, none⟩) N C) (put2 ys off n) ∧ Below g w w' := by
  subst hz hy
  obtain ⟨L, hrow, hLC, hNC, hCm, hbg, hL⟩ := hown.row
  have hpl := put2_len ys off n
  have HSP := Lib.hid (splice_put2 hL hN n h1)
  have hp := fun W => put_any n 2 true W
  have e : bytesOf n (sizeOf8 2) true = be2 n := by
    show (dig n 2).reverse = be2 n
    exact be2_dig n
  rw [e] at hp
  have HP := Lib.hid hp
  have hw : IntKind.u64.wrap (n : Int) = (n : Int) := by rw [IntKind.wrap_u64]; omega
  have hcut : ∀ W, (Instr.slice 22 (.slice (some ⟨g, 0, none⟩) N C) (some (.int .i64 (off : Int))) none none).run Try.prog W = .ok (.slice (some ⟨g, off, none⟩) (N - off) (C - off)) W := fun W => by
    rw [run_from8 _ N C off (by omega)]
    unfold cutA
    rw [if_neg (by omega)]
    simp [add_plain]
  have hgl : g < w.heap.size := (Array.getElem?_eq_some_iff.1 hrow).1
  have HROW := Lib.hid hrow
  clear hp e
  go_enter Try.func29, Try.ntmps29
  go_region_law (first
    | (rw [if_pos (by rfl)]; go_simp; refine (HP.out _).mono ?_; rintro e w1 ⟨v, rfl, hown, hb⟩; obtain ⟨A1, m1, c1, rfl, hm1, _, _, hrd⟩ := hown.sl; have hm2 : m1 = 2 := hm1; subst hm2; obtain ⟨ad, rfl, hc⟩ := hrd.cells (by omega); have HD := Lib.hid hc; have HB := Lib.hid hb; have hR1 : w1.heap[g]? = some (.cells L.toArray 5 (0, 0)) := (hb.block g hgl).trans HROW.out; have HR1 := Lib.hid hR1; clear hc hm1 hb hown hrd hR1)
    | (refine step_copy_splice rfl (.tmp 8) (.tmp 11) 22 22 rfl 5 Try.underlying22 size8 (some ⟨g, off, none⟩) (some ad) (N - off) (C - off) 2 c1 (by simp [Act.eval]) (by simp [Act.eval]) g off L 5 HR1.out ((be2 n).map v8) (by rw [List.length_map, be2_len]; exact (Nat.min_eq_left (by omega)).symm) (fun h0 => ⟨rfl, ad, rfl, HD.out⟩) (by rw [List.length_map, be2_len, hLC]; omega) (oneCell8 _) g w1 (Below.refl _ _) (Nat.le_refl _) ?_; intro w5 HG5 hB5))
  go_wp2_with fail
  go_end0
  refine ⟨rfl, ?_, (below_drewN (Below.refl g w) 1).trans ((HB.out.mono (Nat.le_of_lt hgl)).trans hB5)⟩
  exact Own8.ofRow (L := splice L off ((be2 n).map v8)) HG5.out (by rw [splice_len L off _ (by rw [List.length_map, be2_len, hLC]; omega)]; exact hLC) hNC hCm hbg HSP.out (by rw [hpl, hN])

theorem Own8.formG {w : World} {base : Nat} {v : Value} {xs : List UInt8} (h : Own8 w base v xs) {n : Nat} (hn : xs.length = n) (h0 : 0 < n) : ∃ g c, v = .slice (some ⟨g, 0, none⟩) n c ∧ n ≤ c ∧ c ≤ maxLen ∧ base ≤ g ∧ g < w.heap.size ∧ Rd w w.heap.size (some ⟨g, 0, none⟩) n xs := by
  subst hn
  obtain ⟨A, c, rfl, h1, h2, h3, h4⟩ := h.rd
  obtain ⟨g, rfl, hb⟩ := h4 h0
  obtain ⟨b, off, e, hlt⟩ := h3.addr h0
  cases e
  exact ⟨g, c, rfl, h1, h2, hb, hlt, h3⟩
/-- A byte stored into an owned slice: a law for the walk; the world behind it is a letter. -/
theorem wpList_storeO {w : World} {ops : Array Oper} {rest : List Oper} {op : Oper} {a : Act} {Q : Exit → Act → World → Prop} (hgd : op.guard = none) (x y : Operand) (ho : op.op = .store 5 x y)
    (g i : Nat) (hx : a.eval x = .pointer (some ⟨g, i, none⟩)) (b : UInt8) (m : Int) (hm : m = (b.toNat : Int)) (hy : a.eval y = .int .u8 m) (xs : List UInt8) (n c base : Nat) (hn : xs.length = n) (hown : Own8 w base (.slice (some ⟨g, 0, none⟩) n c) xs) (hi : i < n)
    (h : ∀ w', Own8 w' base (.slice (some ⟨g, 0, none⟩) n c) (xs.set i b) → Below g w w' → wpList Try.prog ops Q rest (a.put op.dst undef) w') : wpList Try.prog ops Q (op :: rest) a w := by
  subst hm
  subst hn
  refine wpList_plain hgd fun K hK => ?_
  have hc := hown.cellAt i (by omega)
  have hf := hown.frozenAt i
  have hs := (hown.stored i (v8 b)).1
  rw [List.getElem?_map, List.getElem?_eq_getElem hi] at hc
  have ho2 : Own8 (w.setCell ⟨g, i, none⟩ (v8 b)) base (.slice (some ⟨g, 0, none⟩) xs.length c) (xs.set i b) := by
    unfold Own8
    rw [List.length_set, List.map_set]
    exact hs
  have hk := h _ ho2 ((Below.refl g w).setCell (p := ⟨g, i, none⟩) (Nat.le_refl _) _)
  unfold v8 at hc hk
  simp only [Option.map_some] at hc
  unfold Oper.wp execOp
  simp only [ho, hx, hy]
  clear h hs ho2
  go_simp
  exact hK _ _ hk

/-- Where the checksum begins, of whatever protocol. -/
def plcI (n : Int) : Nat := if n = 6 then 16 else if n = 17 then 6 else 0
theorem plcI_pr (u : Bool) : plcI (prN u : Nat) = plc u := by cases u <;> rfl
theorem place_any (n : Int) (w : World) : Calls Try.prog 12 #[.int .i64 n] w fun e w' => e = .returned (.int .i64 (plcI n : Nat)) ∧ w = w' := by
  by_cases h6 : n = 6
  · subst h6
    go_enter Try.func12, Try.ntmps12
    go_wp2_with fail
    go_ret
    exact ⟨rfl, rfl⟩
  · have b6 : (n == 6) = false := beq_eq_false_iff_ne.2 h6
    by_cases h17 : n = 17
    · subst h17
      go_enter Try.func12, Try.ntmps12
      go_wp2_with fail
      go_ret
      exact ⟨rfl, rfl⟩
    · have b17 : (n == 17) = false := beq_eq_false_iff_ne.2 h17
      have e : plcI n = 0 := by unfold plcI; rw [if_neg h6, if_neg h17]
      rw [e]
      clear e
      go_enter Try.func12, Try.ntmps12
      go_wp2_with fail
      go_ret
      exact ⟨rfl, rfl⟩
theorem rplace_any (n : Int) (w : World) : Calls Try.prog 13 #[.int .i64 n] w fun e w' => e = .returned (.int .i64 (plcI n : Nat)) ∧ w = w' := by
  by_cases h6 : n = 6
  · subst h6
    go_enter Try.func13, Try.ntmps13
    go_wp2_with fail
    go_ret
    exact ⟨rfl, rfl⟩
  · have b6 : (n == 6) = false := beq_eq_false_iff_ne.2 h6
    by_cases h17 : n = 17
    · subst h17
      go_enter Try.func13, Try.ntmps13
      go_wp2_with fail
      go_ret
      exact ⟨rfl, rfl⟩
    · have b17 : (n == 17) = false := beq_eq_false_iff_ne.2 h17
      have e : plcI n = 0 := by unfold plcI; rw [if_neg h6, if_neg h17]
      rw [e]
      clear e
      go_enter Try.func13, Try.ntmps13
      go_wp2_with fail
      go_ret
      exact ⟨rfl, rfl⟩
theorem proto_any (u : Bool) (w : World) : Calls Try.prog 16 #[.bool u] w fun e w' => e = .returned (.int .i64 (prN u : Nat)) ∧ w = w' := by
  cases u
  all_goals
    go_enter Try.func16, Try.ntmps16
    go_wp2_with fail
    go_ret
    exact ⟨rfl, rfl⟩
end Go.Proofs.Ytgjjepcjdekihaa
