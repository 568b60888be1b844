/-
  Plain mathematics of stage 11: tuples, packets, how a frame is read. No program is walked here.
  Tuples and packets in memory: their cells; laws for whole loads and stores of them and of parts; put together; compared with themselves.
  The document's Turn, Family, and its header with a Type.
  The document's Read of frames.
  The document's header with a Type; the statements' own tuple.
  Plain mathematics of stage 11: what a frame that is made is, why there is none, and how it is read.
  Arguments of stage 11: headers of frames, tuples.
-/
import Derived.Test.YtmngagcekhlppaaQ7
import Derived.Test.YtmngagcekhlppaaQ8
import Derived.Test.YtmngagcekhlppaaQ9
import Derived.Test.YtmngagcekhlppaaQ10
import Derived.Test.YtmngagcekhlppaaTK
import Derived.Deep.Slices
import Derived.Deep.Fields
import Derived.BigFrame
namespace Go.Proofs.Ytmngagcekhlppaa
open Go.RowKit Go.Lib
/-- A tuple. -/
structure Tu where
  s : Ad
  d : Ad
  pr : Int
  sp : Int
  dp : Int
structure Tu.Ok (t : Tu) : Prop where
  s : t.s.b.length = 16
  d : t.d.b.length = 16
def Tu.zero : Tu := ⟨Ad.zero, Ad.zero, 0, 0, 0⟩
theorem Tu.ok_zero : Tu.zero.Ok := ⟨rfl, rfl⟩
/-- A packet. -/
structure Pk where
  kind : Int
  t : Tu
  fl : Int
  net : Int
  sg : Int
  en : Int
def kindK (k : Int) : Pk := ⟨k, Tu.zero, 0, 0, 0, 0⟩
/-- What an IP header tells, of both families. -/
structure Nt where
  e : Nat
  head : Nat
  total : Nat
  frag : Bool
  proto : Nat
  s : Ad
  d : Ad
/-- What is told of a header without a fault. -/
structure Nt.Fits (n : Nt) (len : Nat) : Prop where
  s : n.s.b.length = 16
  d : n.d.b.length = 16
  h1 : n.head ≤ n.total
  h2 : n.total ≤ len
/-- The segment that an IP packet carries. -/
def segN (rest : List UInt8) (n : Nt) : List UInt8 := (rest.drop n.head).take (n.total - n.head)
/-- The packet, from its IP header on. -/
def behind (at_ : Nat) (rest : List UInt8) (n : Nt) : Pk :=
  if n.e ≠ 0 then kindK 3 else if n.frag = true then kindK 4 else if n.proto ≠ 6 ∧ n.proto ≠ 17 then kindK 5
  else if faultP (n.proto : Nat) (segN rest n) ≠ 0 then kindK 6
  else ⟨0, ⟨n.s, n.d, (n.proto : Nat), ((rdP (n.proto : Nat) (segN rest n)).s : Nat), ((rdP (n.proto : Nat) (segN rest n)).d : Nat)⟩, ((rdP (n.proto : Nat) (segN rest n)).f : Nat), (at_ : Nat), ((at_ + n.head : Nat) : Int), ((at_ + n.total : Nat) : Int)⟩
section
variable {at_ : Nat} {rest : List UInt8} {n : Nt}
end
end Go.Proofs.Ytmngagcekhlppaa
namespace Go.Proofs.Ytmngagcekhlppaa
open Go.RowKit Go.Lib
/-- The cells of a tuple, of a packet. -/
def tuE (t : Tu) : List Value := [.int .i64 t.pr, .int .i64 t.sp, .int .i64 t.dp]
def tuL (t : Tu) : List Value := adL t.s ++ (adL t.d ++ tuE t)
def tuC (t : Tu) : Value := .agg (tuL t).toArray
theorem tuL_len {t : Tu} (h : t.Ok) : (tuL t).length = 37 := by
  unfold tuL
  rw [List.length_append, List.length_append, adL_len h.s, adL_len h.d]
  rfl
/-- A row of cells that is known whole, of any type: one block. -/
abbrev Blk (w : World) (T : TypeId) (g : Nat) (cs : List Value) : Prop := Blk_10 w T g cs
section
variable {w : World} {T : TypeId} {g : Nat} {t : Tu} {p : Pk}
theorem tu_src (h : Blk w T g (tuL t)) : w.rangeAt g 0 (adL t.s) := Blk_10.mid h (pre := []) (post := adL t.d ++ tuE t) rfl rfl
theorem tu_dst (h : Blk w T g (tuL t)) (ho : t.Ok) : w.rangeAt g 17 (adL t.d) := Blk_10.mid h (pre := adL t.s) (post := tuE t) rfl (adL_len ho.s)
theorem tu_six (h : Blk w T g (tuL t)) : w.cell? ⟨g, 0, none⟩ = some (.bool t.s.six) := Blk_10.cell h rfl
theorem tu_num (h : Blk w T g (tuL t)) (ho : t.Ok) : w.cell? ⟨g, 34, none⟩ = some (.int .i64 t.pr) ∧ w.cell? ⟨g, 35, none⟩ = some (.int .i64 t.sp) ∧ w.cell? ⟨g, 36, none⟩ = some (.int .i64 t.dp) := by
  have e : ∀ i, (tuL t)[34 + i]? = (tuE t)[i]? := by
    intro i
    unfold tuL
    rw [List.getElem?_append_right (by rw [adL_len ho.s]; omega), adL_len ho.s, List.getElem?_append_right (by rw [adL_len ho.d]; omega), adL_len ho.d]
    congr 1
    omega
  exact ⟨Blk_10.cell h (e 0), Blk_10.cell h (e 1), Blk_10.cell h (e 2)⟩
end
/-- A part of a block, whole: a law for the walk, guarded by yes or not guarded. -/
theorem wpList_loadM {w : World} {ops : Array Oper} {rest : List Oper} {op : Oper} {a : Act} {Q : Exit → Act → World → Prop} (T : TypeId) (x : Operand) (ho : op.op = .load T x) (hw : Region.wanted op (yielded ops a.tmps) = true)
    (g o : Nat) (hx : a.eval x = .pointer (some ⟨g, o, none⟩)) (cs : List Value) (hb : w.rangeAt g o cs) (d : TypeDesc) (hu : Try.prog.underlying T = some d) (hd : d.isRow = true) (hi : (Try.prog.info? T).map (·.size) = some cs.length)
    (hk : wpList Try.prog ops Q rest (a.put op.dst (.agg cs.toArray)) w) : wpList Try.prog ops Q (op :: rest) a w :=
  BigFrame.wpList_want hw fun _ hK => wp_load_mid T x ho g o hx cs d hb hu hd hi (hK _ _ hk)
/-- A whole value is stored into a cell that was just laid. -/
theorem wpList_storeNewG {arr : Array Value} {w : World} {ops : Array Oper} {rest : List Oper} {op : Oper} {a : Act} {Q : Exit → Act → World → Prop} (hgd : op.guard = none) (T : TypeId) (x y : Operand) (ho : op.op = .store T x y)
    (hx : a.eval x = .pointer (some ⟨w.heap.size, 0, none⟩)) (cs : List Value) (hy : a.eval y = .agg cs.toArray) (hl : arr.size = cs.length) (hi : (Try.prog.info? T).map (·.size) = some cs.length) (h1 : ∀ v ∈ cs, v.oneCell' = true)
    (h : ∀ w', Blk w' T w.heap.size cs → Below w.heap.size w w' → w'.heap.size = w.heap.size + 1 → wpList Try.prog ops Q rest (a.put op.dst undef) w') :
    wpList Try.prog ops Q (op :: rest) a (w.alloc (.cells arr T)) := by
  have hb := Blk_10.new w T arr.toList
  rw [Array.toArray_toList] at hb
  refine wpList_storeR_10 hgd T x y ho w.heap.size hx cs hy arr.toList hb (by rw [Array.length_toList]; exact hl) hi h1 ?_
  refine h _ (hb.setRow_ _) (below_setRow ((Below.refl _ _).alloc (Nat.le_refl _) _) (Nat.le_refl _) _) ?_
  rw [World.setRow]; simp
end Go.Proofs.Ytmngagcekhlppaa
namespace Go.Proofs.Ytmngagcekhlppaa
open Go.RowKit Go.Lib
/-- Are two addresses of one family? -/
def famB (a b : Ad) : Bool := a.six == b.six && (a.six || (shortB a && shortB b))
/-- The Type of a tuple's family. -/
def tyOf (t : Tu) : Int := if t.s.six = true then 34525 else 2048
def typedL (L : Lk) (t : Tu) : Lk := { L with ty := tyOf t }
end Go.Proofs.Ytmngagcekhlppaa
namespace Go.Proofs.Ytmngagcekhlppaa
open Go.RowKit Go.Lib
end Go.Proofs.Ytmngagcekhlppaa
namespace Go.Proofs.Ytmngagcekhlppaa
open Go.RowKit Go.Lib
end Go.Proofs.Ytmngagcekhlppaa
namespace Go.Proofs.Ytmngagcekhlppaa
open Go.RowKit Go.Lib
structure MakeOk (L : Lk) (t : Tu) (f : Int) : Prop where
  link : rightB_7 (typedL L t) = true
  fam : famB t.s t.d = true
  pr : t.pr = 6 ∨ t.pr = 17
  s0 : 0 ≤ t.sp
  s1 : t.sp ≤ 65535
  d0 : 0 ≤ t.dp
  d1 : t.dp ≤ 65535
  f0 : 0 ≤ f
  f1 : f ≤ 63
  fu : t.pr = 17 → f = 0
section
variable {L : Lk} {t : Tu} {f : Int} {load : List UInt8}
end
end Go.Proofs.Ytmngagcekhlppaa
namespace Go.Proofs.Ytmngagcekhlppaa
set_option maxRecDepth 100000
open Go.RowKit Go.Lib Go.ChangeShapes Go.WideShapes Go.ChangeAt Go.Deep
section
variable {H : Type} {enc : TypeId × Value → H} {W : World}
/-- Sixteen cells that read as an array of bytes. -/
theorem sixteen_cells {fuel : Nat} {cs : List Value} {y : DataW H × List MemPlace} (h : DataW.trod enc Try.prog W 0 (fun _ => true) true fuel 22 cs = some y) :
    ∃ bs : List UInt8, bs.length = 16 ∧ ∀ i, i < 16 → cs[i]? = (bs.map v8)[i]? := by
  obtain ⟨xs, m, _, _, hxl, hxn, hx⟩ := DataW.trod_array Try.underlying22 h
  have each : ∀ i, ∃ x : UInt8, i < 16 → cs[i]? = some (v8 x) := by
    intro i
    by_cases hi : i < 16
    · have hxi := hx i hi
      obtain ⟨x, hxx⟩ : ∃ x, xs[i]? = some x := ⟨_, List.getElem?_eq_getElem (by rw [hxn]; exact hi)⟩
      rw [hxx] at hxi
      obtain ⟨z, hz, _, hw⟩ := DataW.trod_int Try.underlying5 hxi
      obtain ⟨r1, r2⟩ := range_u8 hw
      rw [cells_u8, Nat.mul_one] at hz
      have := one_of_take hz
      refine ⟨UInt8.ofNat z.toNat, fun _ => ?_⟩
      rw [v8_of _ (by omega), show ((z.toNat : Nat) : Int) = z by omega]
      exact this
    · exact ⟨0, fun h => absurd h hi⟩
  refine ⟨(List.range 16).map fun i => Classical.choose (each i), by simp, fun i hi => ?_⟩
  rw [Classical.choose_spec (each i) hi]
  simp [hi]
end
end Go.Proofs.Ytmngagcekhlppaa
