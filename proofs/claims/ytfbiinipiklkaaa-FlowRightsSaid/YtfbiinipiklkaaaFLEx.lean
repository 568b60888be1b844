/-
  What is asked of the program (a premise, until it has landed): its table of flows, held in whatever way.
  The laws' room, one, alone.
  A table as a law holds it, the program's contracts a premise: what a method answers, what it leaves, what lies apart from it.
  What lies apart from a table; the answers of awake's examples (stage 21).
-/
import Derived.Test.YtfbiinipiklkaaaFLTab3
import Derived.Test.YtfbiinipiklkaaaHOpen
namespace Go.Proofs.Ytfbiinipiklkaaa
set_option maxRecDepth 100000
open Go.RowKit Go.Lib

/-- Of the blocks that were there, only those of the footprint may have changed. -/
structure Keep (fp : Nat → Prop) (w w' : World) : Prop where
  os : w'.os = w.os
  tape : w'.tape = w.tape
  output : w'.output = w.output
  size : w.heap.size ≤ w'.heap.size
  block : ∀ k, k < w.heap.size → ¬ fp k → w'.heap[k]? = w.heap[k]?
theorem Keep.of_below {fp : Nat → Prop} {w w' : World} (h : Below w.heap.size w w') : Keep fp w w' := ⟨h.os, h.tape, h.output, h.size, fun k hk _ => h.block k hk⟩
theorem Keep.of_grown {fp : Nat → Prop} {w w' : World} {g : Nat} (h : w.grownBy w' (some g)) (hf : fp g) : Keep fp w w' :=
  ⟨h.os, h.tape, h.output, h.size, fun k hk hn => h.block k hk (fun e => by cases e; exact hn hf)⟩
theorem Keep.trans {fp fq fr : Nat → Prop} {a b c : World} (h1 : Keep fp a b) (h2 : Keep fq b c) (hp : ∀ k, k < a.heap.size → fp k → fr k) (hq : ∀ k, k < a.heap.size → fq k → fr k) : Keep fr a c :=
  ⟨h2.os.trans h1.os, h2.tape.trans h1.tape, h2.output.trans h1.output, Nat.le_trans h1.size h2.size, fun k hk hn => (h2.block k (Nat.lt_of_lt_of_le hk h1.size) (fun e => hn (hq k hk e))).trans (h1.block k hk (fun e => hn (hp k hk e)))⟩
/-- From a base below which the footprint does not reach. -/
theorem Keep.below {fp : Nat → Prop} {B : Nat} {w0 w w' : World} (h : Below B w0 w) (hk : Keep fp w w') (hB : B ≤ w.heap.size) (hf : ∀ k, fp k → B ≤ k) : Below B w0 w' :=
  ⟨hk.os.trans h.os, hk.tape.trans h.tape, hk.output.trans h.output, Nat.le_trans h.size hk.size, fun k hl => (hk.block k (Nat.lt_of_lt_of_le hl hB) (fun e => by have := hf k e; omega)).trans (h.block k hl)⟩
theorem OwnG.keeps {α : Type} {E : Enc α} {w w' : World} {base : Nat} {v : Value} {xs : List α} (h : OwnG E w base v xs) (hk : ∀ b, v.ownBlock = some b → w'.heap[b]? = w.heap[b]?) : OwnG E w' base v xs := by
  refine ⟨h.1, ?_⟩
  rcases h.2 with hn | ⟨g, cap, cur, rfl, hb, hg, rest⟩
  · exact .inl hn
  · exact .inr ⟨g, cap, cur, rfl, hb, by rw [hk g rfl]; exact hg, rest⟩
theorem OwnG.keep_fp {α : Type} {E : Enc α} {w w' : World} {base : Nat} {v : Value} {xs : List α} {fp : Nat → Prop} (h : OwnG E w base v xs) (hk : Keep fp w w') (hf : ∀ b, v.ownBlock = some b → ¬ fp b) : OwnG E w' base v xs :=
  h.keeps fun b hb => hk.block b (h.ltS b hb) (hf b hb)
theorem Blk.keep_fp {w w' : World} {T : TypeId} {g : Nat} {cs : List Value} {fp : Nat → Prop} (h : Blk w T g cs) (hk : Keep fp w w') (hf : ¬ fp g) : Blk w' T g cs := (hk.block g (Blk_10.lt h) hf).trans h
theorem RefT.keep_fp {w w' : World} {g : Nat} {room : Int} {lv : Value} {l : List Fw} {fp : Nat → Prop} (h : RefT w g room lv l) (hk : Keep fp w w') (hg : ¬ fp g) (hf : ∀ b, lv.ownBlock = some b → ¬ fp b) : RefT w' g room lv l :=
  ⟨Blk.keep_fp h.blk hk hg, h.own.keep_fp hk hf, h.ne⟩
theorem RdG.keep_fp {α : Type} {E : Enc α} {w w' : World} {B n : Nat} {A : Option Addr} {xs : List α} {fp : Nat → Prop} (h : RdG E w B A n xs) (hk : Keep fp w w') (hB : B ≤ w.heap.size) (hf : ∀ k, fp k → B ≤ k) : RdG E w' B A n xs :=
  h.below (Keep.below (Below.refl B w) hk hB hf)
/-- What a method leaves: the table, in its own blocks and new ones. -/
def Left (Rep : World → (Nat → Prop) → Value → Nat → List Fw → Prop) (w : World) (fp : Nat → Prop) (v : Value) (r : Nat) (l : List Fw) (w' : World) (fq : Nat → Prop) : Prop :=
  Rep w' fq v r l ∧ Keep fp w w' ∧ ∀ k, fq k → fp k ∨ w.heap.size ≤ k
/-- What a table answers to a tuple. -/
def getV (l : List Fw) (k : Tu) : Value := .tuple #[fwC ((hasK l k).getD fw0), .bool (hasK l k).isSome]
/-- A flow with a short name, its numbers being of 64 bits. -/
structure InF (f : Fw) : Prop where
  nm : f.nm.length ≤ 200
  st : In64 f.st
  sn : In64 f.sn
  no : In64 f.no
  pr : In64 f.k.pr
  sp : In64 f.k.sp
  dp : In64 f.k.dp
structure InT (t : Tu) : Prop where
  ok : t.Ok
  pr : In64 t.pr
  sp : In64 t.sp
  dp : In64 t.dp
structure FlowC (Rep : World → (Nat → Prop) → Value → Nat → List Fw → Prop) : Prop where
  lt : ∀ {w fp v r l}, Rep w fp v r l → ∀ k, fp k → k < w.heap.size
  keep : ∀ {w fp v r l w'}, Rep w fp v r l → (∀ k, fp k → w'.heap[k]? = w.heap[k]?) → Rep w' fp v r l
  ptr : ∀ {w fp v r l}, Rep w fp v r l → ∃ g, v = .pointer (some ⟨g, 0, none⟩)
  new_ : ∀ (key : List UInt8) (r : Nat) (W : World), key.length = 16 → 1 ≤ r → r ≤ 4096 → Calls Try.prog 11 #[.agg (key.map v8).toArray, .int .i64 (r : Int)] W fun e w' => ∃ v fp, e = .returned (.tuple #[v, .int .i64 0]) ∧ Rep w' fp v r [] ∧ Below W.heap.size W w' ∧ ∀ k, fp k → W.heap.size ≤ k
  none_ : ∀ (key : List UInt8) (n : Int) (W : World), key.length = 16 → In64 n → n < 1 ∨ 4096 < n → Calls Try.prog 11 #[.agg (key.map v8).toArray, .int .i64 n] W fun e w' => e = .returned (.tuple #[.pointer none, .int .i64 1]) ∧ Below W.heap.size W w'
  put : ∀ {W fp v r l}, Rep W fp v r l → RightT r l → 1 ≤ r → r ≤ 4096 → ∀ f, InF f → Calls Try.prog 19 #[v, fwC f] W fun e w' => e = .returned (putV r l f) ∧ ∃ fq, Left Rep W fp v r (putT r l f) w' fq
  drop : ∀ {W fp v r l}, Rep W fp v r l → RightT r l → 1 ≤ r → r ≤ 4096 → ∀ k, InT k → Calls Try.prog 21 #[v, tuC k] W fun e w' => e = .returned (.bool (hasK l k).isSome) ∧ ∃ fq, Left Rep W fp v r (outK l k) w' fq
  get : ∀ {W fp v r l}, Rep W fp v r l → RightT r l → 1 ≤ r → r ≤ 4096 → ∀ k, InT k → Calls Try.prog 26 #[v, tuC k] W fun e w' => e = .returned (getV l k) ∧ ∃ fq, Left Rep W fp v r l w' fq
  sweep : ∀ {W fp v r l}, Rep W fp v r l → RightT r l → 1 ≤ r → r ≤ 4096 → ∀ (now : Int) (idle : List Int), In64 now → idle.length = 6 → (∀ z, z ∈ idle → In64 z) → Calls Try.prog 24 #[v, .int .i64 now, zC idle] W fun e w' => ∃ s fq, e = .returned s ∧ OwnG eF w' W.heap.size s (l.filter (staleF now idle)) ∧ Left Rep W fp v r (l.filter fun x => !staleF now idle x) w' fq ∧ ∀ b, s.ownBlock = some b → ¬ fq b
  list : ∀ {W fp v r l}, Rep W fp v r l → RightT r l → 1 ≤ r → r ≤ 4096 → Calls Try.prog 28 #[v] W fun e w' => ∃ s fq, e = .returned s ∧ OwnG eF w' W.heap.size s l ∧ Left Rep W fp v r l w' fq ∧ ∀ b, s.ownBlock = some b → ¬ fq b
  len : ∀ {W fp v r l}, Rep W fp v r l → RightT r l → 1 ≤ r → r ≤ 4096 → Calls Try.prog 12 #[v] W fun e w' => e = .returned (.int .i64 (l.length : Int)) ∧ ∃ fq, Left Rep W fp v r l w' fq
  older : ∀ (a b : Fw) (W : World), rightF a = true → rightF b = true → Calls Try.prog 15 #[fwC a, fwC b] W fun e w' => e = .returned (.bool (olderF a b)) ∧ Below W.heap.size W w'
  right : ∀ (a : Fw) (W : World), InF a → Calls Try.prog 13 #[fwC a] W fun e w' => e = .returned (.bool (rightF a)) ∧ Below W.heap.size W w'
end Go.Proofs.Ytfbiinipiklkaaa
namespace Go.Proofs.Ytfbiinipiklkaaa
set_option maxRecDepth 100000
open Go.RowKit Go.Lib

def roomN (n : Nat) : Nat := 1 + n % 40
theorem room_in (n : Nat) : 1 ≤ roomN n ∧ roomN n ≤ 40 := by unfold roomN; omega
theorem rroom_any (n : Nat) (hn : n < 256) (w : World) : Calls Try.prog 18 #[.int .u8 (n : Int)] w fun e w' => e = .returned (.int .i64 (roomN n : Nat)) ∧ w' = w := by
  have h2 : n % 40 < 40 := Nat.mod_lt _ (by decide)
  unfold roomN
  go_enter Try.func18, Try.ntmps18
  go_wp2_with fail
  go_ret
  exact ⟨congrArg (fun z => Ending.returned (.int .i64 z)) (by omega : (1 + (n : Int) % 40) = ((1 + n % 40 : Nat) : Int)), rfl⟩
/-- A right flow of a number. -/
def oneF (n : Nat) : Fw := ⟨⟨⟨false, UInt8.ofNat n :: [0, 0, 0, 0, 0, 0, 0, 0, 0, 0, 0, 0, 0, 0, 0]⟩, ⟨false, zer16⟩, 6, n, 0⟩, [97], 2, 0, n, ⟨rfl, rfl⟩⟩
theorem one_cells {n : Nat} (hn : n < 256) : (fwL (oneF n)).toArray = #[.bool false, .int .u8 (n : Int), .int .u8 0, .int .u8 0, .int .u8 0, .int .u8 0, .int .u8 0, .int .u8 0, .int .u8 0, .int .u8 0, .int .u8 0, .int .u8 0, .int .u8 0, .int .u8 0, .int .u8 0, .int .u8 0, .int .u8 0, .bool false, .int .u8 0, .int .u8 0, .int .u8 0, .int .u8 0, .int .u8 0, .int .u8 0, .int .u8 0, .int .u8 0, .int .u8 0, .int .u8 0, .int .u8 0, .int .u8 0, .int .u8 0, .int .u8 0, .int .u8 0, .int .u8 0, .int .i64 6, .int .i64 (n : Int), .int .i64 0, .string ⟨#[97]⟩, .int .i64 2, .int .i64 0, .int .i64 (n : Int)] := by
  have e : fwL (oneF n) = .bool false :: v8 (UInt8.ofNat n) :: [.int .u8 0, .int .u8 0, .int .u8 0, .int .u8 0, .int .u8 0, .int .u8 0, .int .u8 0, .int .u8 0, .int .u8 0, .int .u8 0, .int .u8 0, .int .u8 0, .int .u8 0, .int .u8 0, .int .u8 0, .bool false, .int .u8 0, .int .u8 0, .int .u8 0, .int .u8 0, .int .u8 0, .int .u8 0, .int .u8 0, .int .u8 0, .int .u8 0, .int .u8 0, .int .u8 0, .int .u8 0, .int .u8 0, .int .u8 0, .int .u8 0, .int .u8 0, .int .i64 6, .int .i64 (n : Int), .int .i64 0, .string ⟨#[97]⟩, .int .i64 2, .int .i64 0, .int .i64 (n : Int)] := rfl
  rw [e, v8_of n hn]
theorem built16 (n : Nat) : Try.prog.built 22 [(0, .int .u8 (n : Int))] = some #[.int .u8 (n : Int), .int .u8 0, .int .u8 0, .int .u8 0, .int .u8 0, .int .u8 0, .int .u8 0, .int .u8 0, .int .u8 0, .int .u8 0, .int .u8 0, .int .u8 0, .int .u8 0, .int .u8 0, .int .u8 0, .int .u8 0] := by kernel_rfl
theorem builtAd (n : Nat) : Try.prog.built 24 [(1, .agg #[.int .u8 (n : Int), .int .u8 0, .int .u8 0, .int .u8 0, .int .u8 0, .int .u8 0, .int .u8 0, .int .u8 0, .int .u8 0, .int .u8 0, .int .u8 0, .int .u8 0, .int .u8 0, .int .u8 0, .int .u8 0, .int .u8 0])] = some #[.bool false, .int .u8 (n : Int), .int .u8 0, .int .u8 0, .int .u8 0, .int .u8 0, .int .u8 0, .int .u8 0, .int .u8 0, .int .u8 0, .int .u8 0, .int .u8 0, .int .u8 0, .int .u8 0, .int .u8 0, .int .u8 0, .int .u8 0] := by kernel_rfl
theorem builtTu (n : Nat) : Try.prog.built 26 [(0, .agg #[.bool false, .int .u8 (n : Int), .int .u8 0, .int .u8 0, .int .u8 0, .int .u8 0, .int .u8 0, .int .u8 0, .int .u8 0, .int .u8 0, .int .u8 0, .int .u8 0, .int .u8 0, .int .u8 0, .int .u8 0, .int .u8 0, .int .u8 0]), (2, .int .i64 6), (3, .int .i64 (n : Int))] = some #[.bool false, .int .u8 (n : Int), .int .u8 0, .int .u8 0, .int .u8 0, .int .u8 0, .int .u8 0, .int .u8 0, .int .u8 0, .int .u8 0, .int .u8 0, .int .u8 0, .int .u8 0, .int .u8 0, .int .u8 0, .int .u8 0, .int .u8 0, .bool false, .int .u8 0, .int .u8 0, .int .u8 0, .int .u8 0, .int .u8 0, .int .u8 0, .int .u8 0, .int .u8 0, .int .u8 0, .int .u8 0, .int .u8 0, .int .u8 0, .int .u8 0, .int .u8 0, .int .u8 0, .int .u8 0, .int .i64 6, .int .i64 (n : Int), .int .i64 0] := by kernel_rfl
theorem builtFw (n : Nat) : Try.prog.built 28 [(0, .agg #[.bool false, .int .u8 (n : Int), .int .u8 0, .int .u8 0, .int .u8 0, .int .u8 0, .int .u8 0, .int .u8 0, .int .u8 0, .int .u8 0, .int .u8 0, .int .u8 0, .int .u8 0, .int .u8 0, .int .u8 0, .int .u8 0, .int .u8 0, .bool false, .int .u8 0, .int .u8 0, .int .u8 0, .int .u8 0, .int .u8 0, .int .u8 0, .int .u8 0, .int .u8 0, .int .u8 0, .int .u8 0, .int .u8 0, .int .u8 0, .int .u8 0, .int .u8 0, .int .u8 0, .int .u8 0, .int .i64 6, .int .i64 (n : Int), .int .i64 0]), (1, .string ⟨#[97]⟩), (2, .int .i64 2), (4, .int .i64 (n : Int))] = some #[.bool false, .int .u8 (n : Int), .int .u8 0, .int .u8 0, .int .u8 0, .int .u8 0, .int .u8 0, .int .u8 0, .int .u8 0, .int .u8 0, .int .u8 0, .int .u8 0, .int .u8 0, .int .u8 0, .int .u8 0, .int .u8 0, .int .u8 0, .bool false, .int .u8 0, .int .u8 0, .int .u8 0, .int .u8 0, .int .u8 0, .int .u8 0, .int .u8 0, .int .u8 0, .int .u8 0, .int .u8 0, .int .u8 0, .int .u8 0, .int .u8 0, .int .u8 0, .int .u8 0, .int .u8 0, .int .i64 6, .int .i64 (n : Int), .int .i64 0, .string ⟨#[97]⟩, .int .i64 2, .int .i64 0, .int .i64 (n : Int)] := by kernel_rfl
theorem results_fw {fn : Func} {p : Tmp} (hr : fn.results = #[.cell p 28]) (tmps : Array Value) (w : World) (g : Nat) (hp : tmps.getD p undef = .pointer (some ⟨g, 0, none⟩)) (x : Fw) (hb : Blk w 28 g (fwL x)) :
    (results fn tmps).run Try.prog w = .ok (fwC x) w := by
  have hl := run_loadVar_mid (P := Try.prog) w g 0 28 (fwL x) _ (Blk_10.range hb) Try.underlying28 rfl (sizeFwL x)
  rw [results_cell0 hr, hp]
  simp [Result.andThen, asAddr, hl, fwC]
set_option maxHeartbeats 4000000 in
theorem rone_any (n : Nat) (hn : n < 256) (w : World) : Calls Try.prog 31 #[.int .i64 (n : Int)] w fun e w' => e = .returned (fwC (oneF n)) ∧ Below w.heap.size w w' := by
  have h6 : (n : Int) % 65536 = n := by omega
  have HC := Lib.hid (one_cells hn)
  obtain ⟨Y, hY, hb, hbel, hys⟩ := box_fw1 w fw0
  have HY := Lib.hid (show w.alloc (.cells #[.bool false, .int .u8 0, .int .u8 0, .int .u8 0, .int .u8 0, .int .u8 0, .int .u8 0, .int .u8 0, .int .u8 0, .int .u8 0, .int .u8 0, .int .u8 0, .int .u8 0, .int .u8 0, .int .u8 0, .int .u8 0, .int .u8 0, .bool false, .int .u8 0, .int .u8 0, .int .u8 0, .int .u8 0, .int .u8 0, .int .u8 0, .int .u8 0, .int .u8 0, .int .u8 0, .int .u8 0, .int .u8 0, .int .u8 0, .int .u8 0, .int .u8 0, .int .u8 0, .int .u8 0, .int .i64 0, .int .i64 0, .int .i64 0, .string ⟨#[]⟩, .int .i64 0, .int .i64 0, .int .i64 0] 28) = Y by rw [← zer_fw]; exact hY)
  have HK := Lib.hid hb
  have HB := Lib.hid hbel
  have HS := Lib.hid hys
  clear hY hb hbel hys
  go_enter Try.func31, Try.ntmps31
  go_upto_region 1 with (fail)
  rw [HY.out]
  go_wp2_with (first
    | ((with_reducible show wpList _ _ _ (⟨some 5, _, _, _, _, _⟩ :: _) _ _); refine wpList_buildw (op := ⟨some 5, _, _, _, _, _⟩) 22 _ rfl (by rfl) _ (by rfl) _ (built16 n) ?_)
    | ((with_reducible show wpList _ _ _ (⟨some 6, _, _, _, _, _⟩ :: _) _ _); refine wpList_buildw (op := ⟨some 6, _, _, _, _, _⟩) 24 _ rfl (by rfl) _ (by rfl) _ (builtAd n) ?_)
    | ((with_reducible show wpList _ _ _ (⟨some 9, _, _, _, _, _⟩ :: _) _ _); refine wpList_buildw (op := ⟨some 9, _, _, _, _, _⟩) 26 _ rfl (by rfl) _ (by rfl) _ (builtTu n) ?_)
    | ((with_reducible show wpList _ _ _ (⟨some 11, _, _, _, _, _⟩ :: _) _ _); refine wpList_buildw (op := ⟨some 11, _, _, _, _, _⟩) 28 _ rfl (by rfl) _ (by rfl) _ (builtFw n) ?_)
    | ((with_reducible show wpList _ _ _ (⟨none, _, _, _, _, _⟩ :: _) _ _); refine wpList_storeBA (op := ⟨none, _, _, _, _, _⟩) rfl 28 (.tmp 2) (.tmp 11) rfl w.heap.size (by rfl) (fwL (oneF n)) (by rw [HC.out]; rfl) _ HK.out (by simp only [fwL_len]) (sizeFwL _) (fwL_one _) ?_; intro w2 hb2 hg2; have K2 := Lib.hid hb2; have G2 := Lib.hid hg2; clear hb2 hg2))
  refine bodyPost_ret (v := fwC (oneF n)) (results_fw rfl _ _ w.heap.size (by rfl) _ K2.out) rfl ?_
  exact ⟨rfl, below_gb HB.out G2.out (Nat.le_refl _) HB.out.size⟩
end Go.Proofs.Ytfbiinipiklkaaa
namespace Go.Proofs.Ytfbiinipiklkaaa
set_option maxRecDepth 100000
open Go.RowKit Go.Lib

abbrev RepF := World → (Nat → Prop) → Value → Nat → List Fw → Prop
/-- The table at v, of room r, holds l; its blocks fp are none of those below B. -/
structure Tb (Rep : RepF) (w0 : World) (B : Nat) (v : Value) (r : Nat) (l : List Fw) (w : World) (fp : Nat → Prop) : Prop where
  rep : Rep w fp v r l
  right : RightT r l
  bel : Below B w0 w
  base : B ≤ w0.heap.size
  low : ∀ k, fp k → B ≤ k
  room1 : 1 ≤ r
  room2 : r ≤ 4096
section
variable {Rep : RepF} {w0 w w' : World} {B r : Nat} {v : Value} {l m : List Fw} {fp fq : Nat → Prop}
theorem Tb.big (h : Tb Rep w0 B v r l w fp) : B ≤ w.heap.size := Nat.le_trans h.base h.bel.size
theorem Tb.below (S : FlowC Rep) (h : Tb Rep w0 B v r l w fp) (hb : Below w.heap.size w w') : Tb Rep w0 B v r l w' fp :=
  ⟨S.keep h.rep (fun k hk => hb.block k (S.lt h.rep k hk)), h.right, h.bel.trans (hb.mono h.big), h.base, h.low, h.room1, h.room2⟩
theorem Tb.left (h : Tb Rep w0 B v r l w fp) (hl : Left Rep w fp v r m w' fq) (hr : RightT r m) : Tb Rep w0 B v r m w' fq :=
  ⟨hl.1, hr, Keep.below h.bel hl.2.1 h.big h.low, h.base, fun k hk => (hl.2.2 k hk).elim (h.low k) (fun h2 => Nat.le_trans h.big h2), h.room1, h.room2⟩
/-- Another table's work leaves it. -/
theorem Tb.other (S : FlowC Rep) (h : Tb Rep w0 B v r l w fp) (hk : Keep fq w w') (hq : ∀ k, fq k → B ≤ k) (hd : ∀ k, fp k → ¬ fq k) : Tb Rep w0 B v r l w' fp :=
  ⟨S.keep h.rep (fun k hf => hk.block k (S.lt h.rep k hf) (hd k hf)), h.right, Keep.below h.bel hk h.big hq, h.base, h.low, h.room1, h.room2⟩
/-- One block written that is none of its own. -/
theorem Tb.grown (S : FlowC Rep) (h : Tb Rep w0 B v r l w fp) {g : Nat} (hg : w.grownBy w' (some g)) (hB : B ≤ g) (hf : ¬ fp g) : Tb Rep w0 B v r l w' fp :=
  ⟨S.keep h.rep (fun k hk => hg.block k (S.lt h.rep k hk) (fun e => by cases e; exact hf hk)), h.right, h.bel.grown hg h.big (fun k e => by cases e; exact hB), h.base, h.low, h.room1, h.room2⟩
theorem Tb.new_off (S : FlowC Rep) (h : Tb Rep w0 B v r l w fp) {k : Nat} (hk : w.heap.size ≤ k) : ¬ fp k := fun e => by
  have := S.lt h.rep k e
  omega
/-- What a method that answers a value leaves. -/
def MovGave (Rep : RepF) (w0 : World) (B : Nat) (v : Value) (r : Nat) (m : List Fw) (w : World) (fp : Nat → Prop) (val : Value) (e : Ending) (w' : World) : Prop :=
  e = .returned val ∧ ∃ fq, Tb Rep w0 B v r m w' fq ∧ Keep fp w w' ∧ ∀ k, fq k → fp k ∨ w.heap.size ≤ k
theorem off_left {k : Nat} (hs : ∀ k, fq k → fp k ∨ w.heap.size ≤ k) (h : ¬ fp k) (hk : k < w.heap.size) : ¬ fq k := fun e => (hs k e).elim h (fun h2 => by omega)
theorem off_two {fr : Nat → Prop} (hs : ∀ k, fq k → fp k ∨ w.heap.size ≤ k) (hd : ∀ k, fr k → ¬ fp k) (hl : ∀ k, fr k → k < w.heap.size) : ∀ k, fr k → ¬ fq k := fun k hk => off_left hs (hd k hk) (hl k hk)
/-- What a method that answers flows leaves. -/
def SlcGave (Rep : RepF) (w0 : World) (B : Nat) (v : Value) (r : Nat) (xs m : List Fw) (w : World) (fp : Nat → Prop) (e : Ending) (w' : World) : Prop :=
  ∃ (A : Option Addr) (n c : Nat), e = .returned (.slice A n c) ∧ n = xs.length ∧ n ≤ c ∧ c ≤ maxLen ∧ OwnG eF w' w.heap.size (.slice A n c) xs ∧ ∃ fq, Tb Rep w0 B v r m w' fq ∧ Keep fp w w' ∧ (∀ k, fq k → fp k ∨ w.heap.size ≤ k) ∧ ∀ b, (Value.slice A n c).ownBlock = some b → ¬ fq b
theorem Tb.put (S : FlowC Rep) (h : Tb Rep w0 B v r l w fp) {f : Fw} (hf : InF f) : Calls Try.prog 19 #[v, fwC f] w (MovGave Rep w0 B v r (putT r l f) w fp (putV r l f)) :=
  (S.put h.rep h.right h.room1 h.room2 f hf).mono fun _ _ ⟨h1, fq, hl⟩ => ⟨h1, fq, h.left hl (putT_right h.right h.room1 f), hl.2⟩
theorem Tb.drop (S : FlowC Rep) (h : Tb Rep w0 B v r l w fp) {k : Tu} (hk : InT k) : Calls Try.prog 21 #[v, tuC k] w (MovGave Rep w0 B v r (outK l k) w fp (.bool (hasK l k).isSome)) :=
  (S.drop h.rep h.right h.room1 h.room2 k hk).mono fun _ _ ⟨h1, fq, hl⟩ => ⟨h1, fq, h.left hl (outK_right h.right k), hl.2⟩
theorem Tb.get (S : FlowC Rep) (h : Tb Rep w0 B v r l w fp) {k : Tu} (hk : InT k) : Calls Try.prog 26 #[v, tuC k] w (MovGave Rep w0 B v r l w fp (getV l k)) :=
  (S.get h.rep h.right h.room1 h.room2 k hk).mono fun _ _ ⟨h1, fq, hl⟩ => ⟨h1, fq, h.left hl h.right, hl.2⟩
theorem Tb.len (S : FlowC Rep) (h : Tb Rep w0 B v r l w fp) : Calls Try.prog 12 #[v] w (MovGave Rep w0 B v r l w fp (.int .i64 (l.length : Int))) :=
  (S.len h.rep h.right h.room1 h.room2).mono fun _ _ ⟨h1, fq, hl⟩ => ⟨h1, fq, h.left hl h.right, hl.2⟩
theorem Tb.list (S : FlowC Rep) (h : Tb Rep w0 B v r l w fp) : Calls Try.prog 28 #[v] w (SlcGave Rep w0 B v r l l w fp) :=
  (S.list h.rep h.right h.room1 h.room2).mono fun _ _ ⟨s, fq, h1, ho, hl, hd⟩ => by
    obtain ⟨A, n, c, rfl, hn, hc, hm, _, _⟩ := ho.sl
    exact ⟨A, n, c, h1, hn, hc, hm, ho, fq, h.left hl h.right, hl.2.1, hl.2.2, hd⟩
theorem Tb.sweep (S : FlowC Rep) (h : Tb Rep w0 B v r l w fp) {now : Int} {idle : List Int} (hn : In64 now) (h6 : idle.length = 6) (hi : ∀ z, z ∈ idle → In64 z) :
    Calls Try.prog 24 #[v, .int .i64 now, zC idle] w (SlcGave Rep w0 B v r (l.filter (staleF now idle)) (l.filter fun x => !staleF now idle x) w fp) :=
  (S.sweep h.rep h.right h.room1 h.room2 now idle hn h6 hi).mono fun _ _ ⟨s, fq, h1, ho, hl, hd⟩ => by
    obtain ⟨A, n, c, rfl, hn, hc, hm, _, _⟩ := ho.sl
    exact ⟨A, n, c, h1, hn, hc, hm, ho, fq, h.left hl (filter_right h.right _), hl.2.1, hl.2.2, hd⟩
/-- A new table. -/
def NewGave (Rep : RepF) (w0 : World) (B r : Nat) (w : World) (e : Ending) (w' : World) : Prop :=
  ∃ g fp, e = .returned (.tuple #[.pointer (some ⟨g, 0, none⟩), .int .i64 0]) ∧ Tb Rep w0 B (.pointer (some ⟨g, 0, none⟩)) r [] w' fp ∧ Below w.heap.size w w' ∧ ∀ k, fp k → w.heap.size ≤ k
theorem tb_new (S : FlowC Rep) {key : List UInt8} (hk : key.length = 16) (h1 : 1 ≤ r) (h2 : r ≤ 4096) (hB : B ≤ w0.heap.size) (hb : Below B w0 w) :
    Calls Try.prog 11 #[.agg (key.map v8).toArray, .int .i64 (r : Int)] w (NewGave Rep w0 B r w) :=
  (S.new_ key r w hk h1 h2).mono fun _ _ ⟨v, fp, he, hr, hbl, hlow⟩ => by
    obtain ⟨g, rfl⟩ := S.ptr hr
    have hBs : B ≤ w.heap.size := Nat.le_trans hB hb.size
    exact ⟨g, fp, he, ⟨hr, nil_right r, hb.trans (hbl.mono hBs), hB, fun k hk => Nat.le_trans hBs (hlow k hk), h1, h2⟩, hbl, hlow⟩
end
end Go.Proofs.Ytfbiinipiklkaaa
namespace Go.Proofs.Ytfbiinipiklkaaa
set_option maxRecDepth 100000
open Go.RowKit Go.Lib

section
variable {Rep : RepF} {w0 w w' : World} {B r : Nat} {v : Value} {l m : List Fw} {fp fq : Nat → Prop}
/-- A flow in a block that is none of the table's. -/
def Out (w : World) (fp : Nat → Prop) (b : Nat) (f : Fw) : Prop := Blk w 28 b (fwL f) ∧ ¬ fp b
theorem Out.below {b : Nat} {f : Fw} (h : Out w fp b f) (hb : Below w.heap.size w w') : Out w' fp b f := ⟨Blk_10.below h.1 (Blk_10.lt h.1) hb, h.2⟩
theorem Out.left {b : Nat} {f : Fw} (h : Out w fp b f) (hk : Keep fp w w') (hs : ∀ k, fq k → fp k ∨ w.heap.size ≤ k) : Out w' fq b f := ⟨Blk.keep_fp h.1 hk h.2, off_left hs h.2 (Blk_10.lt h.1)⟩
/-- A slice of flows that is none of the table's. -/
def OutS (w : World) (fp : Nat → Prop) (base : Nat) (s : Value) (xs : List Fw) : Prop := OwnG eF w base s xs ∧ ∀ b, s.ownBlock = some b → ¬ fp b
theorem OutS.below {base : Nat} {s : Value} {xs : List Fw} (h : OutS w fp base s xs) (hb : Below w.heap.size w w') : OutS w' fp base s xs := ⟨h.1.below hb, h.2⟩
theorem OutS.left {base : Nat} {s : Value} {xs : List Fw} (h : OutS w fp base s xs) (hk : Keep fp w w') (hs : ∀ k, fq k → fp k ∨ w.heap.size ≤ k) : OutS w' fq base s xs := ⟨h.1.keep_fp hk h.2, fun b hb => off_left hs (h.2 b hb) (h.1.ltS b hb)⟩
theorem OutS.range {base g n c : Nat} {f : Fw} {xs : List Fw} (h : OutS w fp base (.slice (some ⟨g, 0, none⟩) n c) (f :: xs)) : w.rangeAt g 0 (fwL f) := by
  have h9 := h.1.rd.range (j := 0) (x := f) rfl
  exact h9
theorem Tb.drew (S : FlowC Rep) (h : Tb Rep w0 B v r l w fp) : Tb Rep w0 B v r l w.drew fp := ⟨S.keep h.rep (fun _ _ => rfl), h.right, h.bel.drew, h.base, h.low, h.room1, h.room2⟩
end
theorem in64_lo {z : Int} (h : -1000 ≤ z) (k : z ≤ 1000) : In64 z := by unfold In64; omega
theorem one_in {n : Nat} (h : n < 256) : InF (oneF n) := ⟨(by show (1 : Nat) ≤ 200; decide), in64_lo (by show (-1000 : Int) ≤ 2; decide) (by show (2 : Int) ≤ 1000; decide), in64_lo (by show (-1000 : Int) ≤ 0; decide) (by show (0 : Int) ≤ 1000; decide), in64_lo (by show (-1000 : Int) ≤ (n : Int); omega) (by show (n : Int) ≤ 1000; omega), in64_lo (by show (-1000 : Int) ≤ 6; decide) (by show (6 : Int) ≤ 1000; decide), in64_lo (by show (-1000 : Int) ≤ (n : Int); omega) (by show (n : Int) ≤ 1000; omega), in64_lo (by show (-1000 : Int) ≤ 0; decide) (by show (0 : Int) ≤ 1000; decide)⟩
theorem InF.t {f : Fw} (h : InF f) : InT f.k := ⟨f.ok, h.pr, h.sp, h.dp⟩
theorem fw0_in : InF fw0 := ⟨(by decide), in64_lo (by decide) (by decide), in64_lo (by decide) (by decide), in64_lo (by decide) (by decide), in64_lo (by decide) (by decide), in64_lo (by decide) (by decide), in64_lo (by decide) (by decide)⟩
theorem field_fw (f : Fw) (W : World) : (Instr.field 28 (fwC f) 0).run Try.prog W = .ok (tuC f.k) W := by
  obtain ⟨⟨⟨s6, sb⟩, ⟨d6, db⟩, pr, sp, dp⟩, nm, st, sn, no, ok⟩ := f
  obtain ⟨a0, a1, a2, a3, a4, a5, a6, a7, a8, a9, a10, a11, a12, a13, a14, a15, rfl⟩ := sixteen ok.s
  obtain ⟨b0, b1, b2, b3, b4, b5, b6, b7, b8, b9, b10, b11, b12, b13, b14, b15, rfl⟩ := sixteen ok.d
  kernel_rfl
theorem q_ne {a b : Nat} (h : tuQ (oneF a).k (oneF b).k = false) (l : List Fw) : hasK (oneF a :: l) (oneF b).k = hasK l (oneF b).k := by
  unfold hasK
  rw [List.find?_cons_of_neg (by rw [h]; decide)]
theorem q_eq (a : Nat) (l : List Fw) : hasK (oneF a :: l) (oneF a).k = some (oneF a) := by
  unfold hasK
  rw [List.find?_cons_of_pos (by exact tuQ_self _)]
theorem aw1 : putV 2 [] (oneF 5) = .tuple #[fwC fw0, .bool false, .int .i64 0] ∧ putT 2 [] (oneF 5) = [oneF 5] :=
  put_room (rm := 2) (l := []) (f := oneF 5) (by decide +kernel) rfl (by decide)
theorem aw2 : putV 2 [oneF 5] (oneF 3) = .tuple #[fwC fw0, .bool false, .int .i64 0] ∧ putT 2 [oneF 5] (oneF 3) = [oneF 3, oneF 5] := by
  obtain ⟨h1, h2⟩ := put_room (rm := 2) (l := [oneF 5]) (f := oneF 3) (by decide +kernel) (by rw [q_ne (by decide +kernel)]; rfl) (by decide)
  refine ⟨h1, h2.trans ?_⟩
  unfold insF
  rw [if_pos (by decide +kernel)]
theorem aw3 : putV 2 [oneF 3, oneF 5] (oneF 9) = .tuple #[fwC (oneF 3), .bool true, .int .i64 0] ∧ putT 2 [oneF 3, oneF 5] (oneF 9) = [oneF 5, oneF 9] := by
  obtain ⟨h1, h2⟩ := put_full (rm := 2) (l := [oneF 3, oneF 5]) (f := oneF 9) (x := oneF 3) (by decide +kernel) (by rw [q_ne (by decide +kernel), q_ne (by decide +kernel)]; rfl) (by decide) rfl
  refine ⟨h1, h2.trans ?_⟩
  show insF (oneF 9) [oneF 5] = _
  unfold insF
  rw [if_neg (by decide +kernel)]
  rfl
theorem aw4 : putV 2 [oneF 5, oneF 9] fw0 = .tuple #[fwC fw0, .bool false, .int .i64 1] ∧ putT 2 [oneF 5, oneF 9] fw0 = [oneF 5, oneF 9] := put_bad (by decide +kernel)
theorem aw5 : getV [oneF 5, oneF 9] (oneF 9).k = .tuple #[fwC (oneF 9), .bool true] := by
  unfold getV
  rw [q_ne (by decide +kernel), q_eq]
  rfl
theorem aw6 : getV [oneF 5, oneF 9] (oneF 3).k = .tuple #[fwC fw0, .bool false] := by
  unfold getV
  rw [q_ne (by decide +kernel), q_ne (by decide +kernel)]
  rfl
theorem aw7 : (hasK [oneF 5, oneF 9] (oneF 5).k).isSome = true ∧ outK [oneF 5, oneF 9] (oneF 5).k = [oneF 9] := by
  refine ⟨by rw [q_eq]; rfl, ?_⟩
  unfold outK
  rw [List.filter_cons_of_neg (by rw [tuQ_self]; decide), List.filter_cons_of_pos (by decide +kernel)]
  rfl
theorem aw8 : (hasK [oneF 9] (oneF 5).k).isSome = false ∧ outK [oneF 9] (oneF 5).k = [oneF 9] := by
  refine ⟨by rw [q_ne (by decide +kernel)]; rfl, ?_⟩
  unfold outK
  rw [List.filter_cons_of_pos (by decide +kernel)]
  rfl
theorem aw9 : olderF (oneF 1) (oneF 2) = true ∧ rightF (oneF 1) = true ∧ rightF (oneF 2) = true := ⟨by decide +kernel, by decide +kernel, by decide +kernel⟩
section
variable {Rep : RepF} {w0 w : World} {B : Nat} {v : Value} {fp : Nat → Prop}
theorem tPut1 (S : FlowC Rep) (h : Tb Rep w0 B v 2 [] w fp) : Calls Try.prog 19 #[v, fwC (oneF 5)] w (MovGave Rep w0 B v 2 [oneF 5] w fp (.tuple #[fwC fw0, .bool false, .int .i64 0])) := by
  have h9 := h.put S (one_in (n := 5) (by decide))
  rwa [aw1.1, aw1.2] at h9
theorem tPut2 (S : FlowC Rep) (h : Tb Rep w0 B v 2 [oneF 5] w fp) : Calls Try.prog 19 #[v, fwC (oneF 3)] w (MovGave Rep w0 B v 2 [oneF 3, oneF 5] w fp (.tuple #[fwC fw0, .bool false, .int .i64 0])) := by
  have h9 := h.put S (one_in (n := 3) (by decide))
  rwa [aw2.1, aw2.2] at h9
theorem tPut3 (S : FlowC Rep) (h : Tb Rep w0 B v 2 [oneF 3, oneF 5] w fp) : Calls Try.prog 19 #[v, fwC (oneF 9)] w (MovGave Rep w0 B v 2 [oneF 5, oneF 9] w fp (.tuple #[fwC (oneF 3), .bool true, .int .i64 0])) := by
  have h9 := h.put S (one_in (n := 9) (by decide))
  rwa [aw3.1, aw3.2] at h9
theorem tPut4 (S : FlowC Rep) (h : Tb Rep w0 B v 2 [oneF 5, oneF 9] w fp) : Calls Try.prog 19 #[v, fwC fw0] w (MovGave Rep w0 B v 2 [oneF 5, oneF 9] w fp (.tuple #[fwC fw0, .bool false, .int .i64 1])) := by
  have h9 := h.put S fw0_in
  rwa [aw4.1, aw4.2] at h9
theorem tGet1 (S : FlowC Rep) (h : Tb Rep w0 B v 2 [oneF 5, oneF 9] w fp) : Calls Try.prog 26 #[v, tuC (oneF 9).k] w (MovGave Rep w0 B v 2 [oneF 5, oneF 9] w fp (.tuple #[fwC (oneF 9), .bool true])) := by
  have h9 := h.get S (one_in (n := 9) (by decide)).t
  rwa [aw5] at h9
theorem tGet2 (S : FlowC Rep) (h : Tb Rep w0 B v 2 [oneF 5, oneF 9] w fp) : Calls Try.prog 26 #[v, tuC (oneF 3).k] w (MovGave Rep w0 B v 2 [oneF 5, oneF 9] w fp (.tuple #[fwC fw0, .bool false])) := by
  have h9 := h.get S (one_in (n := 3) (by decide)).t
  rwa [aw6] at h9
theorem tDrop1 (S : FlowC Rep) (h : Tb Rep w0 B v 2 [oneF 5, oneF 9] w fp) : Calls Try.prog 21 #[v, tuC (oneF 5).k] w (MovGave Rep w0 B v 2 [oneF 9] w fp (.bool true)) := by
  have h9 := h.drop S (one_in (n := 5) (by decide)).t
  rwa [aw7.1, aw7.2] at h9
theorem tDrop2 (S : FlowC Rep) (h : Tb Rep w0 B v 2 [oneF 9] w fp) : Calls Try.prog 21 #[v, tuC (oneF 5).k] w (MovGave Rep w0 B v 2 [oneF 9] w fp (.bool false)) := by
  have h9 := h.drop S (one_in (n := 5) (by decide)).t
  rwa [aw8.1, aw8.2] at h9
end
end Go.Proofs.Ytfbiinipiklkaaa
