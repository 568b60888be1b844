/-
  Several texts in one: FCell FSmall FSame FAddr FRAddr FFault FRead FRRead FMayBe FPut FRPut.
-/
import Derived.Deep.MidRow
import Derived.Laws.ResultCell
import Derived.Laws.CopyOwn
import Derived.BigFrame
import Derived.DeepKeys
import Derived.Laws.StructEq
import Derived.Great.BuildSlice
import Derived.Deep.QuietTactic
import Derived.Deep.RegionLaw
import Derived.BigQuiet
import Derived.Lib.VarintBits
import Derived.IntWalk
import Derived.Test.YtomkfcpellcncaaTK
import Derived.Test.YtomkfcpellcncaaQB
namespace Go.Proofs.Ytomkfcpellcncaa
set_option maxRecDepth 100000
section
open Go.RowKit Go.Lib
def frN_8 (f : Fr) : List Value := [.int .i64 f.head, .int .i64 f.total, .int .i64 f.tos, .int .i64 f.id, .bool f.frag, .bool f.keep, .int .i64 f.ttl, .int .i64 f.proto]
def frL_8 (f : Fr) : List Value := frN_8 f ++ (adL f.s ++ adL f.d)
def frC_8 (f : Fr) : Value := .agg (frL_8 f).toArray
theorem frL_len_8 {f : Fr} (h : f.Ok) : (frL_8 f).length = 42 := by
  unfold frL_8
  rw [List.length_append, List.length_append, adL_len h.s, adL_len h.d]
  rfl
theorem frL_one_8 (f : Fr) : ∀ v ∈ frL_8 f, v.oneCell' = true := by
  intro v hv
  unfold frL_8 at hv
  rcases List.mem_append.1 hv with hv | hv
  · simp only [frN_8, List.mem_cons, List.not_mem_nil, or_false] at hv
    rcases hv with rfl | rfl | rfl | rfl | rfl | rfl | rfl | rfl <;> rfl
  · rcases List.mem_append.1 hv with hv | hv
    · exact adL_one _ v hv
    · exact adL_one _ v hv
theorem sizeFr_8 : (Try.prog.info? 68).map (·.size) = some 42 := by kernel_rfl
theorem sizeFrL_8 {f : Fr} (h : f.Ok) : (Try.prog.info? 68).map (·.size) = some (frL_8 f).length := by rw [frL_len_8 h]; exact sizeFr_8
/-- Block g is a row of just these cells, of type T. -/
def Blk_8 (w : World) (T : TypeId) (g : Nat) (cs : List Value) : Prop := w.heap[g]? = some (.cells cs.toArray T (0, 0))
section
variable {w w' : World} {T : TypeId} {g : Nat} {cs : List Value}
theorem Blk_8.lt (h : Blk_8 w T g cs) : g < w.heap.size := (Array.getElem?_eq_some_iff.1 h).1
theorem Blk_8.new (w : World) (T : TypeId) (cs : List Value) : Blk_8 (w.alloc (.cells cs.toArray T)) T w.heap.size cs := heap_alloc_new w _
theorem Blk_8.alloc (h : Blk_8 w T g cs) (o : Obj) : Blk_8 (w.alloc o) T g cs := (Below.heap_alloc w o g h.lt).trans h
theorem Blk_8.drew (h : Blk_8 w T g cs) : Blk_8 w.drew T g cs := h
theorem Blk_8.below (h : Blk_8 w T g cs) {B : Nat} (hB : g < B) (hb : Below B w w') : Blk_8 w' T g cs := (hb.block g hB).trans h
theorem Blk_8.cell (h : Blk_8 w T g cs) {i : Nat} {v : Value} (hv : cs[i]? = some v) : w.cell? ⟨g, i, none⟩ = some v := by
  rw [cell_of_row w g i _ _ (0, 0) h]; simpa using hv
theorem Blk_8.frozen (h : Blk_8 w T g cs) (i : Nat) : w.frozen? ⟨g, i, none⟩ = false := by
  unfold Blk_8 at h; simp [World.frozen?, h]
theorem Blk_8.set (h : Blk_8 w T g cs) (i : Nat) (v : Value) : Blk_8 (w.setCell ⟨g, i, none⟩ v) T g (cs.set i v) := by
  unfold Blk_8 at h ⊢
  simp [World.setCell, Array.getElem?_modify, h]
theorem Blk_8.far (h : Blk_8 w T g cs) {p : Addr} (hp : g ≠ p.block) (u : Value) : Blk_8 (w.setCell p u) T g cs := (Below.heap_setCell w p u g hp).trans h
theorem Blk_8.setRow_ (h : Blk_8 w T g cs) (ds : List Value) : Blk_8 (w.setRow g ds.toArray) T g ds := setRow_heap w g _ _ T (0, 0) h
theorem Blk_8.setRow_far (h : Blk_8 w T g cs) {b : Nat} (hb : g ≠ b) (ds : Array Value) : Blk_8 (w.setRow b ds) T g cs := (setRow_other w b g ds hb).trans h
theorem Blk_8.grown (h : Blk_8 w T g cs) {row : Option Nat} (hg : w.grownBy w' row) (hr : row ≠ some g) : Blk_8 w' T g cs := (hg.block g h.lt (fun e => hr e.symm)).trans h
theorem Blk_8.range (h : Blk_8 w T g cs) : w.rangeAt g 0 cs := fun j v hv => by
  rw [Nat.zero_add]; exact h.cell hv
theorem Blk_8.mid (h : Blk_8 w T g cs) {pre mid post : List Value} (e : cs = pre ++ (mid ++ post)) {o : Nat} (ho : pre.length = o) : w.rangeAt g o mid := fun j v hv => by
  refine h.cell ?_
  subst ho
  rw [e, List.getElem?_append_right (by omega), Nat.add_sub_cancel_left, List.getElem?_append_left (List.getElem?_eq_some_iff.1 hv).1]; exact hv
end
section
variable {w w' : World} {T : TypeId} {g : Nat} {f : Fr} {a : Ad}
theorem Blk_8.src (h : Blk_8 w T g (frL_8 f)) : w.rangeAt g 8 (adL f.s) := h.mid (pre := frN_8 f) (post := adL f.d) rfl rfl
theorem Blk_8.dst (h : Blk_8 w T g (frL_8 f)) (ho : f.Ok) : w.rangeAt g 25 (adL f.d) := h.mid (pre := frN_8 f ++ adL f.s) (post := []) (by rw [List.append_nil, List.append_assoc]; rfl) (by rw [List.length_append, adL_len ho.s]; rfl)
theorem Blk_8.srcB (h : Blk_8 w T g (frL_8 f)) : w.rangeAt g 9 (f.s.b.map v8) := h.mid (pre := frN_8 f ++ [.bool f.s.six]) (post := adL f.d) (by rw [List.append_assoc]; rfl) rfl
theorem Blk_8.dstB (h : Blk_8 w T g (frL_8 f)) (ho : f.Ok) : w.rangeAt g 26 (f.d.b.map v8) := h.mid (pre := frN_8 f ++ (adL f.s ++ [.bool f.d.six])) (post := []) (by rw [List.append_nil, List.append_assoc, List.append_assoc]; rfl) (by rw [List.length_append, List.length_append, adL_len ho.s]; rfl)
theorem Blk_8.adB (h : Blk_8 w T g (adL a)) : w.rangeAt g 1 (a.b.map v8) := h.mid (pre := [.bool a.six]) (post := []) (by rw [List.append_nil]; rfl) rfl
end
/-- A whole value into its block: a law for the walk. -/
theorem wpList_storeR_8 {w : World} {ops : Array Oper} {rest : List Oper} {op : Oper} {a : Act} {Q : Exit → Act → World → Prop} (hgd : op.guard = none) (T : TypeId) (x y : Operand) (ho : op.op = .store T x y)
    (g : Nat) (hx : a.eval x = .pointer (some ⟨g, 0, none⟩)) (cs : List Value) (hy : a.eval y = .agg cs.toArray) (old : List Value) (hb : Blk_8 w T g old) (hl : old.length = cs.length)
    (hi : (Try.prog.info? T).map (·.size) = some cs.length) (h1 : ∀ v ∈ cs, v.oneCell' = true)
    (h : wpList Try.prog ops Q rest (a.put op.dst undef) (w.setRow g cs.toArray)) : wpList Try.prog ops Q (op :: rest) a w := by
  refine wpList_plain hgd fun K hK => ?_
  have hr := run_storeVar_row (P := Try.prog) w g T T old.toArray cs.toArray hb (by simpa using hi) (by simpa using hl) (Array.all_eq_true_iff_forall_mem.2 (fun v hv => h1 v (by simpa using hv)))
  unfold Oper.wp execOp
  simp only [ho, hx, hy, Instr.storeAt, Instr.sureAddr, Sem.run_bind, Sem.run_pure, Result.andThen_ok, hr]
  exact hK _ _ h
/-- The same, at a step of a region that draws. -/
theorem step_storeR_8 {w : World} {ops : Array Oper} {op : Oper} {a : Act} {K : Act → World → Prop} {Q : Exit → Act → World → Prop} {E : Prop} (hgd : op.guard = none) (T : TypeId) (x y : Operand) (ho : op.op = .store T x y)
    (g : Nat) (hx : a.eval x = .pointer (some ⟨g, 0, none⟩)) (cs : List Value) (hy : a.eval y = .agg cs.toArray) (old : List Value) (hb : Blk_8 w T g old) (hl : old.length = cs.length)
    (hi : (Try.prog.info? T).map (·.size) = some cs.length) (h1 : ∀ v ∈ cs, v.oneCell' = true)
    (h : K (a.put op.dst undef) (w.setRow g cs.toArray)) : if Region.wanted op (yielded ops a.tmps) = true then Oper.wp Try.prog op a w K Q else E := by
  have hw : Region.wanted op (yielded ops a.tmps) = true := by simp [Region.wanted, hgd]
  rw [if_pos hw]
  have hr := run_storeVar_row (P := Try.prog) w g T T old.toArray cs.toArray hb (by simpa using hi) (by simpa using hl) (Array.all_eq_true_iff_forall_mem.2 (fun v hv => h1 v (by simpa using hv)))
  unfold Oper.wp execOp
  simp only [ho, hx, hy, Instr.storeAt, Instr.sureAddr, Sem.run_bind, Sem.run_pure, Result.andThen_ok, hr]
  exact h
/-- A whole header out of its block: a law for the walk. -/
theorem wpList_loadF_8 {w : World} {ops : Array Oper} {rest : List Oper} {op : Oper} {a : Act} {Q : Exit → Act → World → Prop} (hgd : op.guard = none) (x : Operand) (ho : op.op = .load 68 x)
    (g : Nat) (hx : a.eval x = .pointer (some ⟨g, 0, none⟩)) (f : Fr) (h : f.Ok) (hb : Blk_8 w 68 g (frL_8 f))
    (hk : wpList Try.prog ops Q rest (a.put op.dst (frC_8 f)) w) : wpList Try.prog ops Q (op :: rest) a w :=
  wpList_load_mid hgd 68 x ho g 0 hx (frL_8 f) _ hb.range Try.underlying68 rfl (sizeFrL_8 h) hk
/-- An address out of the middle of a block, under a guard that says yes. -/
theorem wpList_loadAw_8 {w : World} {ops : Array Oper} {rest : List Oper} {op : Oper} {a : Act} {Q : Exit → Act → World → Prop} (x : Operand) (ho : op.op = .load 25 x) (hw : Region.wanted op (yielded ops a.tmps) = true)
    (g o : Nat) (hx : a.eval x = .pointer (some ⟨g, o, none⟩)) (A : Ad) (h : A.b.length = 16) (hb : w.rangeAt g o (adL A))
    (hk : wpList Try.prog ops Q rest (a.put op.dst (adC A)) w) : wpList Try.prog ops Q (op :: rest) a w :=
  BigFrame.wpList_want hw fun _ hK => wp_load_mid 25 x ho g o hx (adL A) _ hb Try.underlying25 rfl (sizeAdL h) (hK _ _ hk)
/-- The result of one address in a cell. -/
theorem results_ad_8 {fn : Func} {p : Tmp} (hr : fn.results = #[.cell p 25]) (tmps : Array Value) (w : World) (g : Nat) (hp : tmps.getD p undef = .pointer (some ⟨g, 0, none⟩)) (a : Ad) (h : a.b.length = 16) (hb : Blk_8 w 25 g (adL a)) :
    (results fn tmps).run Try.prog w = .ok (adC a) w := by
  have hl := run_loadVar_mid (P := Try.prog) w g 0 25 (adL a) _ hb.range Try.underlying25 rfl (sizeAdL h)
  rw [results_cell0 hr, hp]
  simp [Result.andThen, asAddr, hl, adC]
/-- The results (header, number), the header in a cell. -/
theorem results_fr_8 {fn : Func} {p u : Tmp} (hr : fn.results = #[.cell p 68, .tmp u]) (tmps : Array Value) (w : World) (g : Nat) (hp : tmps.getD p undef = .pointer (some ⟨g, 0, none⟩)) (f : Fr) (h : f.Ok) (hb : Blk_8 w 68 g (frL_8 f))
    (v : Value) (hu : tmps.getD u undef = v) : (results fn tmps).run Try.prog w = .ok (.tuple #[frC_8 f, v]) w := by
  have hl := run_loadVar_mid (P := Try.prog) w g 0 68 (frL_8 f) _ hb.range Try.underlying68 rfl (sizeFrL_8 h)
  rw [results_cell_tmp hr, hp, hu]
  simp [Result.andThen, asAddr, hl, frC_8]
/-- A header put together of its parts. -/
theorem built_fr {f : Fr} (h : f.Ok) : Try.prog.built 68 [(0, .int .i64 f.head), (1, .int .i64 f.total), (2, .int .i64 f.tos), (3, .int .i64 f.id), (4, .bool f.frag), (5, .bool f.keep), (6, .int .i64 f.ttl), (7, .int .i64 f.proto), (8, adC f.s), (9, adC f.d)] = some (frL_8 f).toArray := by
  obtain ⟨h0, h1, h2, h3, h4, h5, h6, h7, ⟨s, sb⟩, ⟨d, db⟩⟩ := f
  obtain ⟨a0, a1, a2, a3, a4, a5, a6, a7, a8, a9, a10, a11, a12, a13, a14, a15, rfl⟩ := sixteen h.s
  obtain ⟨b0, b1, b2, b3, b4, b5, b6, b7, b8, b9, b10, b11, b12, b13, b14, b15, rfl⟩ := sixteen h.d
  kernel_rfl
theorem built_at_8 (a0 a1 a2 a3 : Int) (b0 b1 : Bool) (a4 a5 : Int) (s d : Ad) (hs : s.b.length = 16) (hd : d.b.length = 16) : Try.prog.built 68 [(0, .int .i64 a0), (1, .int .i64 a1), (2, .int .i64 a2), (3, .int .i64 a3), (4, .bool b0), (5, .bool b1), (6, .int .i64 a4), (7, .int .i64 a5), (8, adC s), (9, adC d)] = some (frL_8 ⟨a0, a1, a2, a3, b0, b1, a4, a5, s, d⟩).toArray := by
  have h := built_fr (f := ⟨a0, a1, a2, a3, b0, b1, a4, a5, s, d⟩) ⟨hs, hd⟩
  dsimp only at h
  exact h
end
section
open Go.RowKit Go.Lib
theorem u8_and15 (x : Int) (h₀ : 0 ≤ x) (h₁ : x < 256) : bits .and .u8 x 15 = x % 16 := bits_mask .u8 8 (by decide) wraps_u8 4 (by decide) x h₀ h₁
set_option maxHeartbeats 1000000 in
theorem num_any_8 {A : Option Addr} {len : Nat} {cap p : Nat} {xs : List UInt8} (z : Int) (hz : z = (p : Int)) (hlen : len ≤ 1000000000) (hcap : len ≤ cap) (hcap2 : cap ≤ maxLen) (h : p + 2 ≤ len) {w : World} (hI : Rd w w.heap.size A len xs) :
    Calls Try.prog 69 #[.slice A len cap, .int .i64 z] w fun e w' => e = .returned (.int .i64 (wat xs p : Nat)) ∧ Below w.heap.size w w' := by
  subst hz
  have hcut := run_cut8 A len cap p 2 (p : Int) ((p : Int) + 2) rfl (by omega) (by omega)
  have hr := hI.cut (l := p) (n := 2) h cap hcap
  have hg := get_any (cutA A cap p) 2 (cap - p) ((xs.drop p).take 2) true (by omega) (by omega) (by omega) w hr
  have e : getOf ((xs.drop p).take 2) true = wat xs p := by
    rw [← wat_num xs p (by rw [hI.len]; exact h)]
    unfold getOf
    rw [if_pos rfl, List.take_of_length_le (i := 8) (by rw [List.length_take]; omega)]
  rw [e] at hg
  have hlt := wat_lt xs p
  obtain ⟨n, hn⟩ : ∃ n, wat xs p = n := ⟨_, rfl⟩
  rw [hn] at hg hlt ⊢
  have HG := Lib.hid hg
  have hw : IntKind.i64.wrap ((p : Int) + 2) = (p : Int) + 2 := by rw [IntKind.wrap_i64]; omega
  clear hg e hn hr hI
  go_enter Try.func69, Try.ntmps69
  go_wp2_with fail
  refine HG.out.mono ?_
  rintro e w1 ⟨rfl, hb⟩
  go_wp2_with fail
  go_ret
  exact ⟨rfl, hb⟩
set_option maxHeartbeats 1000000 in
theorem head_any_8 {A : Option Addr} {len : Nat} {cap : Nat} {xs : List UInt8} (h : 0 < len) {w : World} {B : Nat} (hI : Rd w B A len xs) :
    Calls Try.prog 70 #[.slice A len cap] w fun e w' => e = .returned (.int .i64 (ihl xs : Nat)) ∧ w = w' := by
  obtain ⟨b, off, rfl, _⟩ := hI.addr h
  have c0 := hI.cellD (k := 0) h
  have hx := batN_lt xs 0
  have e : (ihl xs : Nat) = 4 * (batN xs 0 % 16) := rfl
  rw [Nat.add_zero] at c0
  generalize batN xs 0 = x at *
  obtain ⟨r, hr⟩ : ∃ r, ihl xs = r := ⟨_, rfl⟩
  rw [hr] at e ⊢
  have ha := u8_and15 (x : Int) (by omega) (by omega)
  have E : ((r : Nat) : Int) = (x : Int) % 16 * 4 := by omega
  have hw : IntKind.i64.wrap ((x : Int) % 16 * 4) = (x : Int) % 16 * 4 := by rw [IntKind.wrap_i64]; omega
  have hw2 : IntKind.i64.wrap ((x : Int) % 16) = (x : Int) % 16 := by rw [IntKind.wrap_i64]; omega
  have l0 : (0 : Int) < (len : Int) := by omega
  have HE := Lib.hid E
  clear E e hr hI
  go_enter Try.func70, Try.ntmps70
  go_wp2_with fail
  go_ret
  exact ⟨by rw [HE.out]; rfl, rfl⟩
/-- Two bytes of a row are laid anew. -/
def put2_8 (ys : List UInt8) (off : Nat) (n : Nat) : List UInt8 := ys.take off ++ (be2 n ++ ys.drop (off + 2))
theorem put2_splice (ys : List UInt8) (off n : Nat) : splice (ys.map v8) off ((be2 n).map v8) = (put2_8 ys off n).map v8 := by
  unfold splice put2_8
  rw [List.map_append, List.map_append, List.map_take, List.map_drop, List.length_map, be2_len]
set_option maxHeartbeats 1000000 in
theorem lay_any_8 (n : Nat) (hn : n < 65536) {w : World} {g : Nat} {ys : List UInt8} (hrow : Row8 w g ys) (N off : Nat) (hN : ys.length = N) (h1 : off + 2 ≤ N) (z y : Int) (hz : z = (off : Int)) (hy : y = (n : Int)) :
    Calls Try.prog 59 #[.slice (some ⟨g, 0, none⟩) N N, .int .i64 z, .int .i64 y] w fun e w' => e = .returned (.tuple #[]) ∧ Row8 w' g (put2_8 ys off n) ∧ Below g w w' := by
  subst hz hy
  have hp := fun W => put_any n 2 true W
  have e : bytesOf n (sizeOf8 2) true = be2 n := by
    show (dig n 2).reverse = be2 n
    exact be2_dig n
  rw [e] at hp
  have HP := Lib.hid hp
  have hw : IntKind.u64.wrap (n : Int) = (n : Int) := by rw [IntKind.wrap_u64]; omega
  have hcut : ∀ W, (Instr.slice 22 (.slice (some ⟨g, 0, none⟩) N N) (some (.int .i64 (off : Int))) none none).run Try.prog W = .ok (.slice (some ⟨g, off, none⟩) (N - off) (N - off)) W := fun W => by
    rw [run_from8 _ N N off (by omega)]
    unfold cutA
    rw [if_neg (by omega)]
    simp [add_plain]
  have hgl := hrow.lt
  have HROW := Lib.hid hrow
  clear hp e
  go_enter Try.func59, Try.ntmps59
  go_region_law (first
    | (rw [if_pos (by rfl)]; go_simp; refine (HP.out _).mono ?_; rintro e w1 ⟨v, rfl, hown, hb⟩; obtain ⟨A1, m1, c1, rfl, hm1, _, _, hrd⟩ := hown.sl; have hm2 : m1 = 2 := hm1; subst hm2; obtain ⟨ad, rfl, hc⟩ := hrd.cells (by omega); have HD := Lib.hid hc; have HB := Lib.hid hb; have hR1 : Row8 w1 g ys := (hb.block g hgl).trans HROW.out; have HR1 := Lib.hid hR1; clear hc hm1 hb hown hrd hR1)
    | (refine step_copy_splice rfl (.tmp 8) (.tmp 11) 22 22 rfl 5 Try.underlying22 size8 (some ⟨g, off, none⟩) (some ad) (N - off) (N - off) 2 c1 (by simp [Act.eval]) (by simp [Act.eval]) g off (ys.map v8) 5 HR1.out ((be2 n).map v8) (by rw [List.length_map, be2_len]; exact (Nat.min_eq_left (by omega)).symm) (fun h0 => ⟨rfl, ad, rfl, HD.out⟩) (by rw [List.length_map, List.length_map, be2_len, hN]; exact h1) (oneCell8 _) g w1 (Below.refl _ _) (Nat.le_refl _) ?_; intro w5 HG5 hB5; rw [put2_splice] at HG5))
  go_wp2_with fail
  go_end0
  exact ⟨rfl, HG5.out, (below_drewN (Below.refl g w) 1).trans ((HB.out.mono (Nat.le_of_lt hgl)).trans hB5)⟩
set_option maxHeartbeats 1000000 in
theorem within_any_8 (n lo hi : Int) (w : World) : Calls Try.prog 78 #[.int .i64 n, .int .i64 lo, .int .i64 hi] w fun e w' => e = .returned (.bool (inB n lo hi)) ∧ w = w' := by
  by_cases h1 : lo ≤ n
  · have d1 : decide (lo ≤ n) = true := decide_eq_true h1
    by_cases h2 : n ≤ hi
    · have e : inB n lo hi = true := decide_eq_true ⟨h1, h2⟩
      rw [e]
      clear e
      go_enter Try.func78, Try.ntmps78
      go_wp2
      go_ret
      exact ⟨rfl, rfl⟩
    · have e : inB n lo hi = false := decide_eq_false (fun h => h2 h.2)
      rw [e]
      clear e
      have b2 : decide (n ≤ hi) = false := decide_eq_false h2
      go_enter Try.func78, Try.ntmps78
      go_wp2
      go_ret
      exact ⟨rfl, rfl⟩
  · have e : inB n lo hi = false := decide_eq_false (fun h => h1 h.1)
    rw [e]
    clear e
    have b2 : decide (lo ≤ n) = false := decide_eq_false h1
    go_enter Try.func78, Try.ntmps78
    go_wp2
    go_ret
    exact ⟨rfl, rfl⟩
end
section
open Go.RowKit Go.Lib
end
section
open Go.RowKit Go.Lib
theorem zeroP_8 : #[Value.bool false, .int .u8 0, .int .u8 0, .int .u8 0, .int .u8 0, .int .u8 0, .int .u8 0, .int .u8 0, .int .u8 0, .int .u8 0, .int .u8 0, .int .u8 0, .int .u8 0, .int .u8 0, .int .u8 0, .int .u8 0, .int .u8 0] = (adL Ad.zero).toArray := by rfl
/-- The address whose first four bytes are these. -/
def ad4 (xs : List UInt8) : Ad := ⟨false, xs.take 4 ++ z12⟩
theorem ad4_len {xs : List UInt8} (h : 4 ≤ xs.length) : (ad4 xs).b.length = 16 := by
  show (xs.take 4 ++ z12).length = 16
  rw [List.length_append, List.length_take, Nat.min_eq_left h]; rfl
theorem ad4_splice {xs : List UInt8} (h : 4 ≤ xs.length) : splice (adL Ad.zero) 1 ((xs.take 4).map v8) = adL (ad4 xs) := by
  match xs, h with
  | a :: b :: c :: d :: r, _ => rfl
set_option maxRecDepth 100000 in
set_option maxHeartbeats 2000000 in
theorem addr_any_8 {A : Option Addr} {len : Nat} {cap : Nat} {xs : List UInt8} (h4 : 4 ≤ len) (hcap : len ≤ cap) {w : World} {B : Nat} (hBw : B ≤ w.heap.size) (hI : Rd w B A len xs) :
    Calls Try.prog 71 #[.slice A len cap] w fun e w' => e = .returned (adC (ad4 xs)) ∧ Below w.heap.size w w' := by
  have hxl : 4 ≤ xs.length := by rw [hI.len]; exact h4
  have HL := Lib.hid (ad4_len hxl)
  have HS := Lib.hid (ad4_splice hxl)
  obtain ⟨Z, hZ⟩ : ∃ Z : World, (w.alloc (.cells (adL Ad.zero).toArray 25)).alloc (.cells (adL Ad.zero).toArray 25) = Z := ⟨_, rfl⟩
  have b1 : Blk_8 Z 25 w.heap.size (adL Ad.zero) := by rw [← hZ]; exact (Blk_8.new w _ _).alloc _
  have b2 : Blk_8 Z 25 (w.heap.size + 1) (adL Ad.zero) := by
    rw [← hZ]
    have := Blk_8.new (w.alloc (.cells (adL Ad.zero).toArray 25)) 25 (adL Ad.zero)
    simpa using this
  have hB0 : Below w.heap.size w Z := by rw [← hZ]; exact ((Below.refl w.heap.size w).alloc (Nat.le_refl _) _).alloc (by simp) _
  have hzs : Z.heap.size = w.heap.size + 2 := by rw [← hZ]; simp
  have hcut := fun W => run_upto8 A len cap 4 4 rfl (by omega) W
  have hr := (hI.below (hB0.mono hBw)).take (k := 4) h4
  obtain ⟨ad, rfl, hcs⟩ := hr.cells (by omega)
  have HC := Lib.hid hcs
  have H4 : Hid (((xs.take 4).map v8).length = 4) := Lib.hid (by rw [List.length_map, hr.len])
  rw [← zeroP_8] at hZ
  have HZ := Lib.hid hZ
  have HB1 := Lib.hid b1
  have HB2 := Lib.hid b2
  have HB0 := Lib.hid hB0
  have HZS := Lib.hid hzs
  clear hZ b1 b2 hB0 hr hcs hzs
  go_enter Try.func71, Try.ntmps71
  go_wp2_with fail
  rw [HZ.out]
  go_region_law (refine step_copy_splice rfl (.tmp 5) (.tmp 7) 22 22 rfl 5 Try.underlying22 size8 (some ⟨w.heap.size + 1, 1, none⟩) (some ad) 16 16 4 cap (by simp [Act.eval, Act.put]) (by simp [Act.eval, Act.put]) (w.heap.size + 1) 1 (adL Ad.zero) 25 HB2.out ((xs.take 4).map v8) (by rw [H4.out]; rfl) (fun h0 => ⟨rfl, ad, rfl, HC.out⟩) (by rw [H4.out]; decide) (oneCell8 _) (w.heap.size + 1) Z (Below.refl _ _).drew (Nat.le_refl _) ?_; intro w3 HG3 hB3; rw [H4.out])
  rw [HS.out] at HG3
  have L1 : Blk_8 w3 25 (w.heap.size + 1) (adL (ad4 xs)) := HG3.out
  have R1 := HB1.out.below (Nat.lt_succ_self _) hB3
  have B3 := HB0.out.trans (hB3.mono (Nat.le_succ _))
  have L1 := Lib.hid L1
  have R1 := Lib.hid R1
  have B3 := Lib.hid B3
  clear HG3 hB3 hcut
  go_wp2_with (first
    | ((with_reducible show wpList _ _ _ _ _ _); refine wpList_load_mid rfl 25 _ rfl (w.heap.size + 1) 0 (by rfl) (adL (ad4 xs)) _ L1.out.range Try.underlying25 rfl (sizeAdL HL.out) ?_)
    | ((with_reducible show wpList _ _ _ _ _ _); refine wpList_storeR_8 rfl 25 _ _ rfl w.heap.size (by rfl) (adL (ad4 xs)) (by rfl) _ R1.out (by rw [adL_len HL.out]; rfl) (sizeAdL HL.out) (adL_one _) ?_))
  refine bodyPost_ret (v := adC (ad4 xs)) (results_ad_8 rfl _ _ w.heap.size (by rfl) _ HL.out (R1.out.setRow_ _)) rfl ?_
  exact ⟨rfl, below_setRow B3.out (Nat.le_refl _) _⟩
theorem short_ad {a : Ad} (h : a.b.length = 16) : adB a (ad4 a.b) = shortB a := by
  apply Bool.eq_iff_iff.2
  rw [short_eq h, adB_eq]
  rfl
set_option maxRecDepth 100000 in
set_option maxHeartbeats 2000000 in
theorem isfour_any {a : Ad} (h : a.b.length = 16) (w : World) : Calls Try.prog 79 #[adC a] w fun e w' => e = .returned (.bool (shortB a)) ∧ Below w.heap.size w w' := by
  have hb1 := Blk_8.new w 25 (adL a)
  have hB1 := (Below.refl w.heap.size w).alloc (Nat.le_refl _) (.cells (adL a).toArray 25)
  have hz1 : (w.alloc (.cells (adL a).toArray 25)).heap.size = w.heap.size + 1 := by simp
  unfold adC
  obtain ⟨w1, hw1⟩ : ∃ w1, w.alloc (.cells (adL a).toArray 25) = w1 := ⟨_, rfl⟩
  rw [hw1] at hB1 hb1 hz1
  have HW := Lib.hid hw1
  have HB := Lib.hid hB1
  have HK := Lib.hid hb1
  have HA := fun W (hW : Below w1.heap.size w1 W) => addr_any_8 (A := some ⟨w.heap.size, 1, none⟩) (len := 16) (cap := 16) (xs := a.b) (w := W) (by omega) (by omega) hW.size ((range_rd hb1.adB h (by omega)).below hW)
  have HAA := Lib.hid HA
  have hl4 := ad4_len (xs := a.b) (by omega)
  have heq := fun W => run_eql_ad W h hl4
  rw [short_ad h] at heq
  have HE := Lib.hid heq
  have HSZ := Lib.hid (sizeAdL h)
  clear hw1 hB1 hb1 HA heq
  go_enter Try.func79, Try.ntmps79
  go_wp2_with fail
  rw [HW.out]
  refine wp_region_held_drew (S := fun W => Below w1.heap.size w1 W) (by kernel_rfl) (Below.refl _ _).drew (fun hHeld => ?_)
  refine tkY 0 3 (.agg (adL a).toArray) rfl (yieldsIf_load_mid (by rfl) 25 _ rfl w.heap.size 0 rfl (adL a) _ (fun W hW => (HK.out.below HK.out.lt hW).range) Try.underlying25 rfl HSZ.out) hHeld ?_
  simp only [Act.put, sA, sZ, sS]
  refine tk 1 4 (.pointer (some ⟨w.heap.size, 1, none⟩)) rfl hHeld ?_
  simp only [Act.put, sA, sZ, sS]
  refine tk 2 5 (.slice (some ⟨w.heap.size, 1, none⟩) 16 16) rfl hHeld ?_
  simp only [Act.put, sA, sZ, sS]
  refine wpAnyH_ready (rs := [3]) (by kernel_rfl) (by simp) (AllReadyH.cons (o := ⟨some 6, _, _, _, _, _⟩) rfl (fun K hK => ?_) AllReadyH.nil)
  go_simp
  refine (HAA.out _ hHeld).mono ?_
  rintro e w2 ⟨rfl, hb2⟩
  refine hK.out _ _ (hHeld.trans (hb2.mono hHeld.size)) (fun hHeld => ?_)
  clear hK K hb2
  refine tkY 4 7 (.bool (shortB a)) rfl (yields_eql (by rfl) 25 _ _ _ rfl (adL a).toArray (adL (ad4 a.b)).toArray (by rfl) (by rfl) guard_ad (shortB a) HE.out) hHeld ?_
  simp only [Act.put, sA, sZ, sS]
  refine tk 5 2 (.bool (shortB a)) rfl hHeld ?_
  simp only [Act.put, sA, sZ, sS]
  refine wpAnyH_done (by kernel_rfl) ?_ _
  go_wp2_with fail
  go_ret
  exact ⟨rfl, HB.out.trans (hHeld.mono HB.out.size)⟩
end
section
open Go.RowKit Go.Lib
theorem zeroA : #[Value.bool false, .int .u8 0, .int .u8 0, .int .u8 0, .int .u8 0, .int .u8 0, .int .u8 0, .int .u8 0, .int .u8 0, .int .u8 0, .int .u8 0, .int .u8 0, .int .u8 0, .int .u8 0, .int .u8 0, .int .u8 0, .int .u8 0] = (adL Ad.zero).toArray := by rfl
/-- An address of which the first bytes are known, the others 0. -/
def adP_8 (ys : List UInt8) : Ad := ⟨false, ys ++ List.replicate (16 - ys.length) 0⟩
theorem adP_nil_8 : adP_8 [] = Ad.zero := rfl
theorem adP_cell_8 {ys : List UInt8} (h : ys.length < 16) : (adL (adP_8 ys))[1 + ys.length]? = some (.int .u8 0) := by
  show (Value.bool false :: (ys ++ List.replicate (16 - ys.length) 0).map v8)[1 + ys.length]? = _
  rw [Nat.add_comm, List.getElem?_cons_succ, List.getElem?_map, List.getElem?_append_right (Nat.le_refl _), Nat.sub_self, List.getElem?_replicate, if_pos (by omega)]
  rfl
theorem adP_set_8 {ys : List UInt8} (h : ys.length < 16) (x : UInt8) : (adL (adP_8 ys)).set (1 + ys.length) (v8 x) = adL (adP_8 (ys ++ [x])) := by
  show (Value.bool false :: (ys ++ List.replicate (16 - ys.length) 0).map v8).set (1 + ys.length) (v8 x) = Value.bool false :: ((ys ++ [x]) ++ List.replicate (16 - (ys ++ [x]).length) 0).map v8
  rw [Nat.add_comm, List.set_cons_succ]
  congr 1
  rw [List.map_append, List.set_append_right _ _ (by rw [List.length_map]; exact Nat.le_refl _), List.length_map, Nat.sub_self, show 16 - ys.length = (16 - (ys ++ [x]).length) + 1 by rw [List.length_append, List.length_singleton]; omega, List.replicate_succ, List.map_cons, List.set_cons_zero]
  simp
theorem adP_four {xs : List UInt8} (p : Nat) (h : p + 4 ≤ xs.length) : adP_8 ((xs.drop p).take 4) = adOf xs p := by
  unfold adP_8 adOf
  rw [List.length_take, List.length_drop, Nat.min_eq_left (by omega)]
  rfl
set_option maxRecDepth 100000 in
set_option maxHeartbeats 2000000 in
theorem raddr_any_8 {A : Option Addr} {len : Nat} {cap p : Nat} {xs : List UInt8} (z : Int) (hz : z = (p : Int)) (hlen : len ≤ 1000000000) (h : p + 4 ≤ len) {w : World} {B : Nat} (hBw : B ≤ w.heap.size) (hI : Rd w B A len xs) :
    Calls Try.prog 45 #[.slice A len cap, .int .i64 z] w fun e w' => e = .returned (adC (adOf xs p)) ∧ Below w.heap.size w w' := by
  subst hz
  have HL := Lib.hid hI.len
  obtain ⟨Z, hZ⟩ : ∃ Z : World, (w.alloc (.cells (adL Ad.zero).toArray 25)).alloc (.cells (adL Ad.zero).toArray 25) = Z := ⟨_, rfl⟩
  have b1 : Blk_8 Z 25 w.heap.size (adL Ad.zero) := by rw [← hZ]; exact (Blk_8.new w _ _).alloc _
  have b2 : Blk_8 Z 25 (w.heap.size + 1) (adL Ad.zero) := by
    rw [← hZ]
    have := Blk_8.new (w.alloc (.cells (adL Ad.zero).toArray 25)) 25 (adL Ad.zero)
    simpa using this
  have hB0 : Below w.heap.size w Z := by rw [← hZ]; exact ((Below.refl w.heap.size w).alloc (Nat.le_refl _) _).alloc (by simp) _
  rw [← zeroA] at hZ
  have HZ := Lib.hid hZ
  clear hZ
  go_enter Try.func45, Try.ntmps45
  go_wp2_with fail
  rw [HZ.out]
  go_loopw [6] (fun i wr => ∃ (k : Nat) (ys : List UInt8), k ≤ 4 ∧ i = .int .i64 (k : Int) ∧ ys = (xs.drop p).take k ∧ ys.length = k ∧ Blk_8 wr 25 w.heap.size (adL Ad.zero) ∧ Blk_8 wr 25 (w.heap.size + 1) (adL (adP_8 ys)) ∧ Below w.heap.size w wr) (fun i _ => 4 - (intOf i).toNat)
  case atStart => exact ⟨0, [], by omega, rfl, by rw [List.take_zero], rfl, b1, by rw [adP_nil_8]; exact b2, hB0⟩
  case round =>
    clear b1 b2 hB0
    obtain ⟨k, ys, hk, rfl, hys, hyl, b1, b2, hB⟩ := hrel
    have HB1 := Lib.hid b1
    by_cases hlt : k < 4
    · have hlt' : (k : Int) < 4 := by omega
      have hr := hI.below (hB.mono hBw)
      obtain ⟨b, off, rfl, hb⟩ := hr.addr (by omega)
      have hx : p + k < xs.length := by rw [HL.out]; omega
      have hc := hr.cell (k := p + k) (by omega)
      obtain ⟨x, hxx⟩ : ∃ x, xs[p + k] = x := ⟨_, rfl⟩
      rw [hxx] at hc
      have hys2 : ys ++ [x] = (xs.drop p).take (k + 1) := by
        rw [hys, List.take_succ_eq_append_getElem (by rw [List.length_drop]; omega), List.getElem_drop, hxx]
      have l1 : (p : Int) + (k : Int) < (len : Int) := by omega
      have t1 : ((p : Int) + (k : Int)).toNat = p + k := by omega
      have hw : IntKind.i64.wrap ((p : Int) + (k : Int)) = (p : Int) + (k : Int) := by rw [IntKind.wrap_i64]; omega
      have hc1 : wr.cell? ⟨w.heap.size + 1, 1 + k, none⟩ = some (.int .u8 0) := b2.cell (by have := adP_cell_8 (ys := ys) (by omega); rwa [hyl] at this)
      have hf1 := b2.frozen (1 + k)
      have b2' := b2.set (1 + k) (v8 x)
      rw [show (adL (adP_8 ys)).set (1 + k) (v8 x) = adL (adP_8 (ys ++ [x])) by have := adP_set_8 (ys := ys) (by omega) x; rwa [hyl] at this] at b2'
      have B2 := Lib.hid b2'
      have hB' := Lib.hid (hB.setCell (p := ⟨w.heap.size + 1, 1 + k, none⟩) (by simp) (v8 x))
      have b1' := Lib.hid (HB1.out.far (p := ⟨w.heap.size + 1, 1 + k, none⟩) (by simp) (v8 x))
      have HY := Lib.hid hys2
      have HYL := Lib.hid hyl
      clear b1 b2 b2' hys hys2 hyl hxx hx hB hr
      go_wp2_with fail
      go_roundw
      case rel => exact ⟨k + 1, ys ++ [x], by omega, by go_num, HY.out, by rw [List.length_append, HYL.out]; rfl, b1'.out, B2.out, hB'.out⟩
      case measure => simp [intOf]; omega
    · obtain rfl : k = 4 := by omega
      rw [hys, adP_four p (by rw [HL.out]; exact h)] at b2
      have hl := adOf_len xs p (by rw [HL.out]; exact h)
      have HB2 := Lib.hid b2
      have HBB := Lib.hid hB
      clear b1 b2 hys hyl hB hlt
      go_wp2_with (first
        | ((with_reducible show wpList _ _ _ _ _ _); refine wpList_load_mid rfl 25 _ rfl (w.heap.size + 1) 0 (by rfl) (adL (adOf xs p)) _ HB2.out.range Try.underlying25 rfl (sizeAdL hl) ?_)
        | ((with_reducible show wpList _ _ _ _ _ _); refine wpList_storeR_8 rfl 25 _ _ rfl w.heap.size (by rfl) (adL (adOf xs p)) (by rfl) _ HB1.out (by rw [adL_len hl]; rfl) (sizeAdL hl) (adL_one _) ?_))
      refine bodyPost_ret (v := adC (adOf xs p)) (results_ad_8 rfl _ _ w.heap.size (by rfl) _ hl (HB1.out.setRow_ _)) rfl ?_
      exact ⟨rfl, below_setRow HBB.out (Nat.le_refl _) _⟩
theorem short_no {a : Ad} {k : Nat} (h4 : 4 ≤ k) (h : batN a.b k ≠ 0) : shortB a = false := by
  obtain ⟨s, b⟩ := a
  unfold shortB
  apply Bool.eq_false_iff.2
  intro hh
  rw [Bool.and_eq_true, List.all_eq_true] at hh
  apply h
  unfold batN
  by_cases hk : k < b.length
  · rw [List.getD, List.getElem?_eq_getElem hk]
    have := hh.2 b[k] (List.mem_iff_getElem.2 ⟨k - 4, by simp; omega, by simp [show 4 + (k - 4) = k by omega]⟩)
    have e : b[k] = 0 := by simpa using this
    show (b[k]).toNat = 0
    rw [e]; rfl
  · rw [List.getD, List.getElem?_eq_none (by show b.length ≤ k; omega)]; rfl
theorem short_all {a : Ad} (h : ∀ k, 4 ≤ k → k < a.b.length → batN a.b k = 0) : shortB a = !a.six := by
  obtain ⟨s, b⟩ := a
  have : (b.drop 4).all (· == 0) = true := by
    rw [List.all_eq_true]
    intro x hx
    obtain ⟨i, hi, rfl⟩ := List.mem_iff_getElem.1 hx
    have hl : 4 + i < b.length := by rw [List.length_drop] at hi; omega
    have := h (4 + i) (by omega) hl
    unfold batN at this
    rw [List.getD, List.getElem?_eq_getElem (show 4 + i < b.length from hl)] at this
    have e : b[4 + i] = 0 := UInt8.toNat_inj.1 this
    simp [e]
  unfold shortB
  rw [show (({ six := s, b := b } : Ad).b.drop 4).all (· == 0) = true from this, Bool.and_true]
set_option maxRecDepth 100000 in
set_option maxHeartbeats 2000000 in
theorem rshort_any {a : Ad} (h : a.b.length = 16) (w : World) : Calls Try.prog 43 #[adC a] w fun e w' => e = .returned (.bool (shortB a)) ∧ Below w.heap.size w w' := by
  have hb1 := Blk_8.new w 25 (adL a)
  have hB1 := (Below.refl w.heap.size w).alloc (Nat.le_refl _) (.cells (adL a).toArray 25)
  have c0 := hb1.cell (i := 0) (v := .bool a.six) rfl
  have hr := range_rd hb1.adB h (Nat.lt_succ_self _)
  have ha := fun (h : ∀ k, 4 ≤ k → k < 16 → batN a.b k = 0) => short_all (a := a) (fun k h1 h2 => h k h1 (by omega))
  have hn := fun k (h1 : 4 ≤ k) (h2 : batN a.b k ≠ 0) => short_no (a := a) h1 h2
  have HA := Lib.hid ha
  have HN := Lib.hid hn
  unfold adC
  clear hb1 ha hn
  obtain ⟨w1, hw1⟩ : ∃ w1, w.alloc (.cells (adL a).toArray 25) = w1 := ⟨_, rfl⟩
  rw [hw1] at hB1 c0 hr
  have HW := Lib.hid hw1
  have HB := Lib.hid hB1
  generalize a.six = six at *
  generalize shortB a = S at *
  generalize adL a = C at *
  clear hw1 hB1
  go_enter Try.func43, Try.ntmps43
  go_wp2_with fail
  rw [HW.out]
  go_loopw [3] (fun i wr => ∃ (k : Nat), 4 ≤ k ∧ k ≤ 16 ∧ i = .int .i64 (k : Int) ∧ (∀ j, 4 ≤ j → j < k → batN a.b j = 0) ∧ wr = w1) (fun i _ => 16 - (intOf i).toNat)
  case atStart => exact ⟨4, by omega, by omega, rfl, fun j _ _ => by omega, rfl⟩
  case round =>
    obtain ⟨k, hk4, hk, rfl, hz, rfl⟩ := hrel
    have HZ := Lib.hid hz
    clear hz
    by_cases hlt : k < 16
    · have hlt' : (k : Int) < 16 := by omega
      have hc := hr.cellD (k := k) hlt
      have hx := batN_lt a.b k
      by_cases h0 : batN a.b k = 0
      · rw [h0] at hc
        have h0' := Lib.hid h0
        clear h0 hx
        go_wp2_with fail
        go_roundw
        case rel => exact ⟨k + 1, by omega, by omega, by go_num, fun j h1 h2 => by
          by_cases e : j = k
          · subst e; exact h0'.out
          · exact HZ.out j h1 (by omega), trivial⟩
        case measure => simp [intOf]; omega
      · have hS := HN.out k hk4 h0
        generalize batN a.b k = x at *
        have x1 : ((x : Int) == 0) = false := beq_eq_false_iff_ne.2 (by omega)
        have x2 : ((x : Int) != 0) = true := by simp; omega
        have x3 : (x == 0) = false := beq_eq_false_iff_ne.2 h0
        have HSS := Lib.hid hS
        clear hS h0 hx
        go_wp2_with fail
        go_ret
        exact ⟨by rw [HSS.out]; rfl, HB.out⟩
    · obtain rfl : k = 16 := by omega
      have hS := HA.out HZ.out
      have HSS := Lib.hid hS
      clear hS
      go_wp2_with fail
      go_ret
      exact ⟨by rw [HSS.out]; rfl, HB.out⟩
end
section
open Go.RowKit Go.Lib
set_option maxRecDepth 100000 in
set_option maxHeartbeats 2000000 in
theorem fault_any_8 (A : Option Addr) (len cap : Nat) (xs : List UInt8) (hlen : len ≤ 1000000) (hcap : len ≤ cap) (hcap2 : cap ≤ maxLen) (w : World) (hI : Rd w w.heap.size A len xs) :
    Calls Try.prog 68 #[.slice A len cap] w fun e w' => e = .returned (.int .i64 (faultN xs : Nat)) ∧ Below w.heap.size w w' := by
  have HL := Lib.hid hI.len
  by_cases h20 : 20 ≤ len
  · have h20' : ¬ (len : Int) < 20 := by omega
    obtain ⟨b, off, rfl, _⟩ := hI.addr (by omega)
    have c0 := hI.cellD (k := 0) (by omega)
    rw [Nat.add_zero] at c0
    have hx := batN_lt xs 0
    have HN := Lib.hid (num_any_8 (p := 2) 2 rfl (by omega) hcap hcap2 (by omega) hI)
    have HH := Lib.hid (fun W (hW : Below w.heap.size w W) => head_any_8 (cap := cap) (by omega) (hI.below hW))
    have hit := wat_lt xs 2
    have hih := ihl_le xs
    have HI := Lib.hid hI
    have F1 := Lib.hid (fun (h : batN xs 0 / 16 ≠ 4 ∨ ihl xs < 20) => fault_form (xs := xs) (by rw [HL.out]; exact h20) h)
    have F2 := Lib.hid (fun h1 h2 (h3 : len < ihl xs) => fault_head (xs := xs) (by rw [HL.out]; exact h20) h1 h2 (by rw [HL.out]; exact h3))
    have F3 := Lib.hid (fun h1 h2 (h3 : ihl xs ≤ len) h4 => fault_less (xs := xs) (by rw [HL.out]; exact h20) h1 h2 (by rw [HL.out]; exact h3) h4)
    have F4 := Lib.hid (fun h1 h2 (h3 : ihl xs ≤ len) h4 (h5 : len < wat xs 2) => fault_more (xs := xs) (by rw [HL.out]; exact h20) h1 h2 (by rw [HL.out]; exact h3) h4 (by rw [HL.out]; exact h5))
    have F5 := Lib.hid (fun h1 h2 (h3 : ihl xs ≤ len) h4 (h5 : wat xs 2 ≤ len) h6 => fault_sum (xs := xs) (by rw [HL.out]; exact h20) h1 h2 (by rw [HL.out]; exact h3) h4 (by rw [HL.out]; exact h5) h6)
    have F6 := Lib.hid (fun h1 h2 (h3 : ihl xs ≤ len) h4 (h5 : wat xs 2 ≤ len) h6 => fault_no (xs := xs) (by rw [HL.out]; exact h20) h1 h2 (by rw [HL.out]; exact h3) h4 (by rw [HL.out]; exact h5) h6)
    have HT := Lib.hid (fun (h3 : ihl xs ≤ len) => hI.take h3)
    generalize batN xs 0 = x at *
    generalize wat xs 2 = T at *
    generalize ihl xs = H at *
    generalize faultN xs = F at *
    have hwx : IntKind.u8.wrap ((x : Int) / 16) = (x : Int) / 16 := by rw [IntKind.wrap_u8]; omega
    clear hI
    go_enter Try.func68, Try.ntmps68
    go_wp2_with fail
    refine HN.out.mono ?_
    rintro e w1 ⟨rfl, hb1⟩
    have k0 := (hb1.cell (p := ⟨b, off, none⟩) (by obtain ⟨b', off', e, h, _⟩ := HI.out.2 (by omega); cases e; exact h)).trans c0
    have HB1 := Lib.hid hb1
    clear c0 hb1
    by_cases hv : x / 16 = 4
    · have v1 : ((x : Int) / 16 != 4) = false := by simp; omega
      have hv' := Lib.hid hv
      clear hv
      by_cases hh : H < 20
      · have hh' : (H : Int) < 20 := by omega
        have hF := F1.out (.inr hh)
        subst hF
        go_wp2_with fail
        refine (HH.out _ HB1.out).mono ?_
        rintro e w2 ⟨rfl, rfl⟩
        go_wp2_with fail
        go_ret
        exact ⟨rfl, HB1.out⟩
      · have hh' : ¬ (H : Int) < 20 := by omega
        go_wp2_with fail
        refine (HH.out _ HB1.out).mono ?_
        rintro e w2 ⟨rfl, rfl⟩
        go_wp2_with fail
        refine (HH.out _ HB1.out).mono ?_
        rintro e w2 ⟨rfl, rfl⟩
        by_cases h3 : len < H
        · have h3' : (len : Int) < (H : Int) := by omega
          have hF := F2.out hv'.out (by omega) h3
          subst hF
          go_wp2_with fail
          go_ret
          exact ⟨rfl, HB1.out⟩
        · have h3' : ¬ (len : Int) < (H : Int) := by omega
          go_wp2_with fail
          refine (HH.out _ HB1.out).mono ?_
          rintro e w2 ⟨rfl, rfl⟩
          by_cases h4 : T < H
          · have h4' : (T : Int) < (H : Int) := by omega
            have hF := F3.out hv'.out (by omega) (by omega) h4
            subst hF
            go_wp2_with fail
            go_ret
            exact ⟨rfl, HB1.out⟩
          · have h4' : ¬ (T : Int) < (H : Int) := by omega
            by_cases h5 : len < T
            · have h5' : (len : Int) < (T : Int) := by omega
              have hF := F4.out hv'.out (by omega) (by omega) (by omega) h5
              subst hF
              go_wp2_with fail
              go_ret
              exact ⟨rfl, HB1.out⟩
            · have h5' : ¬ (len : Int) < (T : Int) := by omega
              have hr := ((HT.out (by omega)).below HB1.out).more HB1.out.size
              have hcut := run_upto8 (some ⟨b, off, none⟩) len cap H (H : Int) rfl (by omega)
              have hc := CellsAt.one hr (c := cap) (by omega) hcap2
              have hB2 := Lib.hid (HB1.out.alloc HB1.out.size (.cells #[.slice (some ⟨b, off, none⟩) H cap] 86))
              have hB2' := Lib.hid (HB1.out.alloc HB1.out.size (.cells #[.slice (some ⟨b, off, none⟩) H cap] 22))
              by_cases h6 : ckOf (xs.take H) = 0
              · have hF := F6.out hv'.out (by omega) (by omega) (by omega) (by omega) h6
                subst hF
                have HR := Lib.hid (right_row w1 _ _ hc 1 1 rfl (by omega) (by simp [HL.out]; omega) (by simpa using h6) 0)
                clear h6 hc hr
                go_wp2_with fail
                refine (HH.out _ HB1.out).mono ?_
                rintro e w2 ⟨rfl, rfl⟩
                go_wp2_with fail
                refine HR.out.mono ?_
                rintro e w2 ⟨rfl, rfl⟩
                go_wp2_with fail
                go_ret
                exact ⟨rfl, hB2'.out⟩
              · have hF := F5.out hv'.out (by omega) (by omega) (by omega) (by omega) h6
                subst hF
                have HR := Lib.hid (wrong_row w1 _ _ hc 1 1 rfl (by omega) (by simp [HL.out]; omega) (by simpa using h6) 0)
                clear h6 hc hr
                go_wp2_with fail
                refine (HH.out _ HB1.out).mono ?_
                rintro e w2 ⟨rfl, rfl⟩
                go_wp2_with fail
                refine HR.out.mono ?_
                rintro e w2 ⟨rfl, rfl⟩
                go_wp2_with fail
                go_ret
                exact ⟨rfl, hB2'.out⟩
    · have v1 : ((x : Int) / 16 != 4) = true := by simp; omega
      have hF := F1.out (.inl hv)
      subst hF
      clear hv
      go_wp2_with fail
      go_ret
      exact ⟨rfl, HB1.out⟩
  · have h20' : (len : Int) < 20 := by omega
    have hF : faultN xs = 2 := fault_short (by rw [HL.out]; omega)
    rw [hF]
    clear hF
    go_enter Try.func68, Try.ntmps68
    go_wp2_with fail
    go_ret
    exact ⟨rfl, Below.refl _ _⟩
end
section
open Go.RowKit Go.Lib
theorem zeroF_8 : #[Value.int .i64 0, .int .i64 0, .int .i64 0, .int .i64 0, .bool false, .bool false, .int .i64 0, .int .i64 0, .bool false, .int .u8 0, .int .u8 0, .int .u8 0, .int .u8 0, .int .u8 0, .int .u8 0, .int .u8 0, .int .u8 0, .int .u8 0, .int .u8 0, .int .u8 0, .int .u8 0, .int .u8 0, .int .u8 0, .int .u8 0, .int .u8 0, .bool false, .int .u8 0, .int .u8 0, .int .u8 0, .int .u8 0, .int .u8 0, .int .u8 0, .int .u8 0, .int .u8 0, .int .u8 0, .int .u8 0, .int .u8 0, .int .u8 0, .int .u8 0, .int .u8 0, .int .u8 0, .int .u8 0] = (frL_8 Fr.zero).toArray := by rfl
theorem and_16383 (n : Nat) (h : n < 65536) : bits .and .i64 (n : Int) 16383 = ((n &&& 16383 : Nat) : Int) := (bits_nat .i64 63 (by decide) (fun n h0 h1 => by rw [IntKind.wrap_i64]; omega) n 16383 (by omega) (by omega)).1
theorem and_16384 (n : Nat) (h : n < 65536) : bits .and .i64 (n : Int) 16384 = ((n &&& 16384 : Nat) : Int) := (bits_nat .i64 63 (by decide) (fun n h0 h1 => by rw [IntKind.wrap_i64]; omega) n 16384 (by omega) (by omega)).1
theorem mask_frag (n : Nat) : (((n &&& 16383 : Nat) : Int) != 0) = decide (n % 16384 ≠ 0) := by
  rw [show (16383 : Nat) = 2 ^ 14 - 1 from rfl, Nat.and_two_pow_sub_one_eq_mod]
  apply Bool.eq_iff_iff.2
  simp
  omega
theorem mask_bit (n : Nat) : (n &&& 16384) = if n / 16384 % 2 = 1 then 16384 else 0 := by
  have ht : n.testBit 14 = decide (n / 16384 % 2 = 1) := Nat.testBit_eq_decide_div_mod_eq
  apply Nat.eq_of_testBit_eq
  intro i
  rw [Nat.testBit_and, show (16384 : Nat) = 2 ^ 14 from rfl, Nat.testBit_two_pow]
  by_cases h : n / 16384 % 2 = 1
  · rw [if_pos h, Nat.testBit_two_pow]
    by_cases e : 14 = i
    · subst e; simp [ht, h]
    · simp [e]
  · rw [if_neg h, Nat.zero_testBit]
    by_cases e : 14 = i
    · subst e; simp [ht, h]
    · simp [e]
theorem mask_keep (n : Nat) : (((n &&& 16384 : Nat) : Int) != 0) = decide (n / 16384 % 2 ≠ 0) := by
  rw [mask_bit]
  rcases Nat.mod_two_eq_zero_or_one (n / 16384) with h | h <;> simp [h]
/-- What Read answers. -/
def ReadGave_8 (w : World) (f : Fr) (k : Nat) (e : Ending) (w' : World) : Prop := e = .returned (.tuple #[frC_8 f, .int .i64 (k : Int)]) ∧ Below w.heap.size w w'
set_option maxRecDepth 100000 in
set_option maxHeartbeats 4000000 in
theorem read_any_8 (A : Option Addr) (len cap : Nat) (xs : List UInt8) (hlen : len ≤ 1000000) (hcap : len ≤ cap) (hcap2 : cap ≤ maxLen) (w : World) (hI : Rd w w.heap.size A len xs) :
    Calls Try.prog 54 #[.slice A len cap] w (ReadGave_8 w (rdF xs) (faultN xs)) := by
  have HL := Lib.hid hI.len
  obtain ⟨Z, hZ⟩ : ∃ Z : World, w.alloc (.cells (frL_8 Fr.zero).toArray 68) = Z := ⟨_, rfl⟩
  have hR0 : Blk_8 Z 68 w.heap.size (frL_8 Fr.zero) := by rw [← hZ]; exact Blk_8.new w _ _
  have hB0 : Below w.heap.size w Z := by rw [← hZ]; exact (Below.refl w.heap.size w).alloc (Nat.le_refl _) _
  rw [← zeroF_8] at hZ
  have HZ := Lib.hid hZ
  have HF := Lib.hid (fault_any_8 A len cap xs hlen hcap hcap2 Z ((hI.below hB0).more hB0.size))
  have HI0 := Lib.hid (hI.below hB0)
  have HR0 := Lib.hid hR0
  have HB0 := Lib.hid hB0
  clear hZ hI hR0 hB0
  by_cases h0 : faultN xs = 0
  · rw [rdF_yes h0, h0]
    rw [h0] at HF
    have h20 : 20 ≤ len := by have := (fault_zero h0).1; rw [HL.out] at this; exact this
    have hOK := frOf_ok xs (by rw [HL.out]; exact h20)
    have hBU := built_at_8 (ihl xs : Nat) (wat xs 2 : Nat) (batN xs 1 : Nat) (wat xs 4 : Nat) (decide (wat xs 6 % 16384 ≠ 0)) (decide (wat xs 6 / 16384 % 2 ≠ 0)) (batN xs 8 : Nat) (batN xs 9 : Nat) (adOf xs 12) (adOf xs 16) hOK.s hOK.d
    rw [show (⟨(ihl xs : Nat), (wat xs 2 : Nat), (batN xs 1 : Nat), (wat xs 4 : Nat), decide (wat xs 6 % 16384 ≠ 0), decide (wat xs 6 / 16384 % 2 ≠ 0), (batN xs 8 : Nat), (batN xs 9 : Nat), adOf xs 12, adOf xs 16⟩ : Fr) = frOf xs from rfl] at hBU
    generalize frOf xs = f at *
    have q3 := mask_frag (wat xs 6)
    have q4 := mask_keep (wat xs 6)
    obtain ⟨fr, hfr⟩ : ∃ fr, decide (wat xs 6 % 16384 ≠ 0) = fr := ⟨_, rfl⟩
    obtain ⟨ke, hke⟩ : ∃ ke, decide (wat xs 6 / 16384 % 2 ≠ 0) = ke := ⟨_, rfl⟩
    rw [hfr] at hBU q3
    rw [hke] at hBU q4
    have HBU := Lib.hid hBU
    have HOK := Lib.hid hOK
    have Q3 := Lib.hid q3
    have Q4 := Lib.hid q4
    clear hfr hke hBU hOK q3 q4
    clear h0
    go_enter Try.func54, Try.ntmps54
    go_wp2_with fail
    rw [HZ.out]
    refine HF.out.mono ?_
    rintro e w0 ⟨rfl, hb0⟩
    have HI1 := HI0.out.below (hb0.mono HB0.out.size)
    have HR1 := HR0.out.below HR0.out.lt hb0
    have HB1 := HB0.out.trans (hb0.mono HB0.out.size)
    clear hb0
    have HI1 := Lib.hid HI1
    have HR1 := Lib.hid HR1
    have HB1 := Lib.hid HB1
    have HN6 := Lib.hid (num_any_8 (p := 6) 6 rfl (by omega) hcap hcap2 (by omega) (HI1.out.more HB1.out.size))
    go_wp2_with fail
    refine HN6.out.mono ?_
    rintro e w1 ⟨rfl, hb1⟩
    have HI2 := Lib.hid (HI1.out.below (hb1.mono HB1.out.size))
    have HR2 := Lib.hid (HR1.out.below HR1.out.lt hb1)
    have HB2 := Lib.hid (HB1.out.trans (hb1.mono HB1.out.size))
    clear HI1 HR1 HB1 HN6 hb1
    have HR1 := HR2
    have HB1 := HB2
    clear HR2 HB2
    obtain ⟨b, off, rfl, _⟩ := HI2.out.addr (by omega)
    have hRd := fun W (hW : Below w.heap.size w1 W) => (HI2.out.below hW).more (Nat.le_trans HB1.out.size hW.size)
    have HN2 := Lib.hid (fun W (hW : Below w.heap.size w1 W) => num_any_8 (p := 2) (cap := cap) 2 rfl (by omega) hcap hcap2 (by omega) (hRd W hW))
    have HN4 := Lib.hid (fun W (hW : Below w.heap.size w1 W) => num_any_8 (p := 4) (cap := cap) 4 rfl (by omega) hcap hcap2 (by omega) (hRd W hW))
    have HH := Lib.hid (fun W (hW : Below w.heap.size w1 W) => head_any_8 (cap := cap) (by omega) (hRd W hW))
    have HA12 := Lib.hid (fun W (hW : Below w.heap.size w1 W) => addr_any_8 (A := cutA (some ⟨b, off, none⟩) cap 12) (len := len - 12) (cap := cap - 12) (xs := xs.drop 12) (by omega) (by omega) (Nat.le_refl _) ((hRd W hW).from (l := 12) (by omega) cap hcap))
    have HA16 := Lib.hid (fun W (hW : Below w.heap.size w1 W) => addr_any_8 (A := cutA (some ⟨b, off, none⟩) cap 16) (len := len - 16) (cap := cap - 16) (xs := xs.drop 16) (by omega) (by omega) (Nat.le_refl _) ((hRd W hW).from (l := 16) (by omega) cap hcap))
    have C1 := Lib.hid (fun W (hW : Below w.heap.size w1 W) => (hRd W hW).cellD (k := 1) (by omega))
    have C8 := Lib.hid (fun W (hW : Below w.heap.size w1 W) => (hRd W hW).cellD (k := 8) (by omega))
    have C9 := Lib.hid (fun W (hW : Below w.heap.size w1 W) => (hRd W hW).cellD (k := 9) (by omega))
    have hc12 : ∀ W, (Instr.slice 22 (.slice (some ⟨b, off, none⟩) len cap) (some (.int .i64 12)) none none).run Try.prog W = .ok (.slice (cutA (some ⟨b, off, none⟩) cap 12) (len - 12) (cap - 12)) W := fun W => run_from8 _ len cap 12 (by omega) W
    have hc16 : ∀ W, (Instr.slice 22 (.slice (some ⟨b, off, none⟩) len cap) (some (.int .i64 16)) none none).run Try.prog W = .ok (.slice (cutA (some ⟨b, off, none⟩) cap 16) (len - 16) (cap - 16)) W := fun W => run_from8 _ len cap 16 (by omega) W
    have l1 : (1 : Int) < (len : Int) := by omega
    have l8 : (8 : Int) < (len : Int) := by omega
    have l9 : (9 : Int) < (len : Int) := by omega
    have x1l := batN_lt xs 1
    have x8l := batN_lt xs 8
    have x9l := batN_lt xs 9
    have n6l := wat_lt xs 6
    have q1 := and_16383 (wat xs 6) n6l
    have q2 := and_16384 (wat xs 6) n6l
    have e12 : ad4 (xs.drop 12) = adOf xs 12 := rfl
    have e16 : ad4 (xs.drop 16) = adOf xs 16 := rfl
    rw [e12] at HA12
    rw [e16] at HA16
    have q3 := Q3.out
    have q4 := Q4.out
    clear Q3 Q4
    generalize adOf xs 12 = a12 at *
    generalize adOf xs 16 = a16 at *
    generalize wat xs 6 = n6 at *
    generalize wat xs 2 = n2 at *
    generalize wat xs 4 = n4 at *
    generalize ihl xs = ih at *
    generalize batN xs 1 = x1 at *
    generalize batN xs 8 = x8 at *
    generalize batN xs 9 = x9 at *
    have w1' : IntKind.i64.wrap (x1 : Int) = (x1 : Int) := by rw [IntKind.wrap_i64]; omega
    have w8' : IntKind.i64.wrap (x8 : Int) = (x8 : Int) := by rw [IntKind.wrap_i64]; omega
    have w9' : IntKind.i64.wrap (x9 : Int) = (x9 : Int) := by rw [IntKind.wrap_i64]; omega
    clear hRd e12 e16
    go_wp2_with fail
    refine wp_region_held_drew (S := fun W => Below w.heap.size w1 W) (by kernel_rfl) (Below.refl _ _).drew (fun hHeld => ?_)
    refine tk 0 14 (.slice (some ⟨b, off, none⟩) len cap) rfl hHeld ?_
    simp only [Act.put, sA, sZ, sS]
    refine tk 2 16 (.slice (some ⟨b, off, none⟩) len cap) rfl hHeld ?_
    simp only [Act.put, sA, sZ, sS]
    refine tk 4 18 (.slice (some ⟨b, off, none⟩) len cap) rfl hHeld ?_
    simp only [Act.put, sA, sZ, sS]
    refine tk 5 19 (.pointer (some ⟨b, off + 1, none⟩)) rfl hHeld ?_
    simp only [Act.put, sA, sZ, sS]
    refine tkY 6 20 (.int .u8 (x1 : Int)) rfl (Or.inl ⟨by rfl, fun W hW => by have hc := C1.out W hW; go_simp⟩) hHeld ?_
    simp only [Act.put, sA, sZ, sS]
    refine tk 7 21 (.int .i64 (x1 : Int)) rfl hHeld ?_
    simp only [Act.put, sA, sZ, sS]
    refine tk 8 22 (.slice (some ⟨b, off, none⟩) len cap) rfl hHeld ?_
    simp only [Act.put, sA, sZ, sS]
    refine tk 10 24 (.int .i64 (n6 : Int)) rfl hHeld ?_
    simp only [Act.put, sA, sZ, sS]
    refine tk 11 25 (.int .i64 ((n6 &&& 16383 : Nat) : Int)) rfl hHeld ?_
    simp only [Act.put, sA, sZ, sS]
    refine tk 12 26 (.bool fr) rfl hHeld ?_
    simp only [Act.put, sA, sZ, sS]
    refine tk 13 27 (.int .i64 (n6 : Int)) rfl hHeld ?_
    simp only [Act.put, sA, sZ, sS]
    refine tk 14 28 (.int .i64 ((n6 &&& 16384 : Nat) : Int)) rfl hHeld ?_
    simp only [Act.put, sA, sZ, sS]
    refine tk 15 29 (.bool ke) rfl hHeld ?_
    simp only [Act.put, sA, sZ, sS]
    refine tk 16 30 (.slice (some ⟨b, off, none⟩) len cap) rfl hHeld ?_
    simp only [Act.put, sA, sZ, sS]
    refine tk 17 31 (.pointer (some ⟨b, off + 8, none⟩)) rfl hHeld ?_
    simp only [Act.put, sA, sZ, sS]
    refine tkY 18 32 (.int .u8 (x8 : Int)) rfl (Or.inl ⟨by rfl, fun W hW => by have hc := C8.out W hW; go_simp⟩) hHeld ?_
    simp only [Act.put, sA, sZ, sS]
    refine tk 19 33 (.int .i64 (x8 : Int)) rfl hHeld ?_
    simp only [Act.put, sA, sZ, sS]
    refine tk 20 34 (.slice (some ⟨b, off, none⟩) len cap) rfl hHeld ?_
    simp only [Act.put, sA, sZ, sS]
    refine tk 21 35 (.pointer (some ⟨b, off + 9, none⟩)) rfl hHeld ?_
    simp only [Act.put, sA, sZ, sS]
    refine tkY 22 36 (.int .u8 (x9 : Int)) rfl (Or.inl ⟨by rfl, fun W hW => by have hc := C9.out W hW; go_simp⟩) hHeld ?_
    simp only [Act.put, sA, sZ, sS]
    refine tk 23 37 (.int .i64 (x9 : Int)) rfl hHeld ?_
    simp only [Act.put, sA, sZ, sS]
    refine tk 24 38 (.slice (some ⟨b, off, none⟩) len cap) rfl hHeld ?_
    simp only [Act.put, sA, sZ, sS]
    refine tk 25 39 (.slice (cutA (some ⟨b, off, none⟩) cap 12) (len - 12) (cap - 12)) rfl hHeld ?_
    simp only [Act.put, sA, sZ, sS]
    refine tk 27 41 (.slice (some ⟨b, off, none⟩) len cap) rfl hHeld ?_
    simp only [Act.put, sA, sZ, sS]
    refine tk 28 42 (.slice (cutA (some ⟨b, off, none⟩) cap 16) (len - 16) (cap - 16)) rfl hHeld ?_
    simp only [Act.put, sA, sZ, sS]
    have HR2 : Hid (Blk_8 w1.drew 68 w.heap.size (frL_8 Fr.zero)) := Lib.hid HR1.out
    refine wpAnyH_ready (rs := [1]) (by kernel_rfl) (by simp) (AllReadyH.cons (o := ⟨some 15, _, _, _, _, _⟩) rfl (fun K hK => ?_) AllReadyH.nil)
    go_simp
    refine (HH.out _ hHeld).mono ?_
    rintro e w2 ⟨rfl, rfl⟩
    refine hK.out _ _ hHeld (fun hHeld => ?_)
    clear hK K
    refine wpAnyH_ready (rs := [3]) (by kernel_rfl) (by simp) (AllReadyH.cons (o := ⟨some 17, _, _, _, _, _⟩) rfl (fun K hK => ?_) AllReadyH.nil)
    go_simp
    refine (HN2.out _ hHeld).mono ?_
    rintro e w3 ⟨rfl, hb3⟩
    have HR3 := Lib.hid (HR2.out.below HR2.out.lt hb3)
    refine hK.out _ _ (hHeld.trans (hb3.mono (Nat.le_trans HB1.out.size hHeld.size))) (fun hHeld => ?_)
    clear hK K hb3 HR2
    refine wpAnyH_ready (rs := [9]) (by kernel_rfl) (by simp) (AllReadyH.cons (o := ⟨some 23, _, _, _, _, _⟩) rfl (fun K hK => ?_) AllReadyH.nil)
    go_simp
    refine (HN4.out _ hHeld).mono ?_
    rintro e w4 ⟨rfl, hb4⟩
    have HR4 := Lib.hid (HR3.out.below HR3.out.lt hb4)
    refine hK.out _ _ (hHeld.trans (hb4.mono (Nat.le_trans HB1.out.size hHeld.size))) (fun hHeld => ?_)
    clear hK K hb4 HR3
    refine wpAnyH_ready (rs := [26]) (by kernel_rfl) (by simp) (AllReadyH.cons (o := ⟨some 40, _, _, _, _, _⟩) rfl (fun K hK => ?_) AllReadyH.nil)
    go_simp
    refine (HA12.out _ hHeld).mono ?_
    rintro e w5 ⟨rfl, hb5⟩
    have HR5 := Lib.hid (HR4.out.below HR4.out.lt hb5)
    refine hK.out _ _ (hHeld.trans (hb5.mono (Nat.le_trans HB1.out.size hHeld.size))) (fun hHeld => ?_)
    clear hK K hb5 HR4
    refine wpAnyH_ready (rs := [29]) (by kernel_rfl) (by simp) (AllReadyH.cons (o := ⟨some 43, _, _, _, _, _⟩) rfl (fun K hK => ?_) AllReadyH.nil)
    go_simp
    refine (HA16.out _ hHeld).mono ?_
    rintro e w6 ⟨rfl, hb6⟩
    have HR6 := Lib.hid (HR5.out.below HR5.out.lt hb6)
    refine hK.out _ _ (hHeld.trans (hb6.mono (Nat.le_trans HB1.out.size hHeld.size))) (fun hHeld => ?_)
    clear hK K hb6 HR5
    refine tkY 30 44 (.agg (frL_8 f).toArray) rfl (yields_build (by rfl) 68 _ rfl _ (by kernel_rfl) _ HBU.out) hHeld ?_
    simp only [Act.put, sA, sZ, sS]
    refine wpAnyH_ready (rs := [31]) (by kernel_rfl) (by simp) (AllReadyH.cons (o := ⟨none, _, _, _, _, _⟩) rfl (fun K hK => ?_) AllReadyH.nil)
    refine step_storeR_8 rfl 68 _ _ rfl w.heap.size (by rfl) (frL_8 f) (by rfl) _ HR6.out (by rw [frL_len_8 HOK.out]; rfl) (sizeFrL_8 HOK.out) (frL_one_8 _) ?_
    have hR9 := Lib.hid (HR6.out.setRow_ (frL_8 f))
    refine hK.out _ _ (below_setRow hHeld (Nat.le_refl _) _) (fun hHeld => ?_)
    clear hK K
    refine tk 32 3 (.int .i64 0) rfl hHeld ?_
    simp only [Act.put, sA, sZ, sS]
    refine wpAnyH_done (by kernel_rfl) ?_ _
    go_wp2_with fail
    refine bodyPost_ret (v := .tuple #[frC_8 f, .int .i64 0]) (results_fr_8 rfl _ _ w.heap.size (by rfl) _ HOK.out hR9.out _ (by rfl)) rfl ?_
    exact ⟨rfl, HB1.out.trans hHeld⟩
  · rw [rdF_no h0]
    have hle := faultN_le xs
    obtain ⟨F, hF⟩ : ∃ F, faultN xs = F := ⟨_, rfl⟩
    rw [hF] at h0 HF hle ⊢
    have n1 : ((F : Int) != 0) = true := by simp; omega
    have HZO := Lib.hid Fr.ok_zero
    clear hF
    go_enter Try.func54, Try.ntmps54
    go_wp2_with fail
    rw [HZ.out]
    refine HF.out.mono ?_
    rintro e w0 ⟨rfl, hb0⟩
    have HR1 := Lib.hid (HR0.out.below HR0.out.lt hb0)
    have HB1 := Lib.hid (HB0.out.trans (hb0.mono HB0.out.size))
    clear hb0
    go_wp2_with (first
      | ((with_reducible show wpList _ _ _ _ _ _); refine wpList_buildTo rfl 68 _ rfl (some 10) rfl (frL_8 Fr.zero).toArray (by kernel_rfl) ?_)
      | ((with_reducible show wpList _ _ _ _ _ _); refine wpList_storeR_8 rfl 68 _ _ rfl w.heap.size (by rfl) (frL_8 Fr.zero) (by rfl) _ HR1.out rfl (sizeFrL_8 HZO.out) (frL_one_8 _) ?_))
    refine bodyPost_ret (v := .tuple #[frC_8 Fr.zero, .int .i64 (F : Int)]) (results_fr_8 rfl _ _ w.heap.size (by rfl) _ HZO.out (HR1.out.setRow_ _) _ (by rfl)) rfl ?_
    exact ⟨rfl, below_setRow HB1.out (Nat.le_refl _) _⟩
end
section
open Go.RowKit Go.Lib
theorem wat2 (xs : List UInt8) : wat xs 2 = 256 * batN xs 2 + batN xs 3 := rfl
theorem wat4 (xs : List UInt8) : wat xs 4 = 256 * batN xs 4 + batN xs 5 := rfl
theorem wat6 (xs : List UInt8) : wat xs 6 = 256 * batN xs 6 + batN xs 7 := rfl
theorem wat_frag (xs : List UInt8) : decide (wat xs 6 % 16384 ≠ 0) = (decide (batN xs 6 % 64 ≠ 0) || decide (batN xs 7 ≠ 0)) := by
  have h1 := batN_lt xs 6
  have h2 := batN_lt xs 7
  rw [wat6]
  apply Bool.eq_iff_iff.2
  rw [Bool.or_eq_true, decide_eq_true_eq, decide_eq_true_eq, decide_eq_true_eq]
  omega
theorem wat_keep (xs : List UInt8) : decide (wat xs 6 / 16384 % 2 ≠ 0) = decide (batN xs 6 / 64 % 2 = 1) := by
  have h1 := batN_lt xs 6
  have h2 := batN_lt xs 7
  rw [wat6]
  apply Bool.eq_iff_iff.2
  rw [decide_eq_true_eq, decide_eq_true_eq]
  omega
set_option maxRecDepth 100000 in
set_option maxHeartbeats 2000000 in
theorem rread_any_8 (A : Option Addr) (len cap : Nat) (xs : List UInt8) (hlen : len ≤ 100000) (hcap : len ≤ cap) (w : World) (hI : Rd w w.heap.size A len xs) :
    Calls Try.prog 32 #[.slice A len cap] w (ReadGave_8 w (rdF xs) (faultN xs)) := by
  have HL := Lib.hid hI.len
  obtain ⟨Z, hZ⟩ : ∃ Z : World, w.alloc (.cells (frL_8 Fr.zero).toArray 68) = Z := ⟨_, rfl⟩
  have hR0 : Blk_8 Z 68 w.heap.size (frL_8 Fr.zero) := by rw [← hZ]; exact Blk_8.new w _ _
  have hB0 : Below w.heap.size w Z := by rw [← hZ]; exact (Below.refl w.heap.size w).alloc (Nat.le_refl _) _
  rw [← zeroF_8] at hZ
  have HZ := Lib.hid hZ
  have HI0 := Lib.hid (hI.below hB0)
  have HR0 := Lib.hid hR0
  have HB0 := Lib.hid hB0
  have HZO := Lib.hid Fr.ok_zero
  clear hZ hI hR0 hB0
  by_cases h20 : 20 ≤ len
  · have h20' : ¬ (len : Int) < 20 := by omega
    obtain ⟨b, off, rfl, _⟩ := HI0.out.addr (by omega)
    have c0 := HI0.out.cellD (k := 0) (by omega)
    have c2 := HI0.out.cellD (k := 2) (by omega)
    have c3 := HI0.out.cellD (k := 3) (by omega)
    rw [Nat.add_zero] at c0
    rw [← HZ.out] at c0 c2 c3
    have hx0 := batN_lt xs 0
    have hx2 := batN_lt xs 2
    have hx3 := batN_lt xs 3
    have hih : ((ihl xs : Nat) : Int) = (batN xs 0 : Int) % 16 * 4 := by unfold ihl; omega
    have hn2 : ((wat xs 2 : Nat) : Int) = 256 * (batN xs 2 : Int) + (batN xs 3 : Int) := by have := wat2 xs; have := wat4 xs; omega
    have hihl := ihl_le xs
    have F1 := Lib.hid (fun (h : batN xs 0 / 16 ≠ 4 ∨ ihl xs < 20) => fault_form (xs := xs) (by rw [HL.out]; exact h20) h)
    have F2 := Lib.hid (fun h1 h2 (h3 : len < ihl xs) => fault_head (xs := xs) (by rw [HL.out]; exact h20) h1 h2 (by rw [HL.out]; exact h3))
    have F3 := Lib.hid (fun h1 h2 (h3 : ihl xs ≤ len) h4 => fault_less (xs := xs) (by rw [HL.out]; exact h20) h1 h2 (by rw [HL.out]; exact h3) h4)
    have F4 := Lib.hid (fun h1 h2 (h3 : ihl xs ≤ len) h4 (h5 : len < wat xs 2) => fault_more (xs := xs) (by rw [HL.out]; exact h20) h1 h2 (by rw [HL.out]; exact h3) h4 (by rw [HL.out]; exact h5))
    have F5 := Lib.hid (fun h1 h2 (h3 : ihl xs ≤ len) h4 (h5 : wat xs 2 ≤ len) h6 => fault_sum (xs := xs) (by rw [HL.out]; exact h20) h1 h2 (by rw [HL.out]; exact h3) h4 (by rw [HL.out]; exact h5) h6)
    have F6 := Lib.hid (fun h1 h2 (h3 : ihl xs ≤ len) h4 (h5 : wat xs 2 ≤ len) h6 => fault_no (xs := xs) (by rw [HL.out]; exact h20) h1 h2 (by rw [HL.out]; exact h3) h4 (by rw [HL.out]; exact h5) h6)
    have HT := Lib.hid (fun (h3 : ihl xs ≤ len) => HI0.out.take h3)
    have HP := Lib.hid (fun (h : faultN xs ≠ 0) => rdF_no h)
    have HP0 := Lib.hid (fun (h : faultN xs = 0) => rdF_yes h)
    have hOK := frOf_ok xs (by rw [HL.out]; exact h20)
    have hBU := built_at_8 (ihl xs : Nat) (wat xs 2 : Nat) (batN xs 1 : Nat) (wat xs 4 : Nat) (decide (wat xs 6 % 16384 ≠ 0)) (decide (wat xs 6 / 16384 % 2 ≠ 0)) (batN xs 8 : Nat) (batN xs 9 : Nat) (adOf xs 12) (adOf xs 16) hOK.s hOK.d
    rw [show (⟨(ihl xs : Nat), (wat xs 2 : Nat), (batN xs 1 : Nat), (wat xs 4 : Nat), decide (wat xs 6 % 16384 ≠ 0), decide (wat xs 6 / 16384 % 2 ≠ 0), (batN xs 8 : Nat), (batN xs 9 : Nat), adOf xs 12, adOf xs 16⟩ : Fr) = frOf xs from rfl] at hBU
    rw [wat_frag, wat_keep, show ((wat xs 4 : Nat) : Int) = 256 * (batN xs 4 : Int) + (batN xs 5 : Int) by have := wat2 xs; have := wat4 xs; omega] at hBU
    have HBU := Lib.hid hBU
    have HOK := Lib.hid hOK
    clear hBU hOK
    have X1 := batN_lt xs 1
    have X4 := batN_lt xs 4
    have X5 := batN_lt xs 5
    have X6 := batN_lt xs 6
    have X7 := batN_lt xs 7
    have X8 := batN_lt xs 8
    have X9 := batN_lt xs 9
    have C1 := Lib.hid (fun W (hW : Below w.heap.size Z W) => (HI0.out.below hW).cellD (k := 1) (by omega))
    have C4 := Lib.hid (fun W (hW : Below w.heap.size Z W) => (HI0.out.below hW).cellD (k := 4) (by omega))
    have C5 := Lib.hid (fun W (hW : Below w.heap.size Z W) => (HI0.out.below hW).cellD (k := 5) (by omega))
    have C6 := Lib.hid (fun W (hW : Below w.heap.size Z W) => (HI0.out.below hW).cellD (k := 6) (by omega))
    have C7 := Lib.hid (fun W (hW : Below w.heap.size Z W) => (HI0.out.below hW).cellD (k := 7) (by omega))
    have C8 := Lib.hid (fun W (hW : Below w.heap.size Z W) => (HI0.out.below hW).cellD (k := 8) (by omega))
    have C9 := Lib.hid (fun W (hW : Below w.heap.size Z W) => (HI0.out.below hW).cellD (k := 9) (by omega))
    have HA12 := Lib.hid (fun W (hW : Below w.heap.size Z W) => raddr_any_8 (p := 12) (cap := cap) 12 rfl (by omega) (by omega) (Nat.le_trans HB0.out.size hW.size) (HI0.out.below hW))
    have HA16 := Lib.hid (fun W (hW : Below w.heap.size Z W) => raddr_any_8 (p := 16) (cap := cap) 16 rfl (by omega) (by omega) (Nat.le_trans HB0.out.size hW.size) (HI0.out.below hW))
    generalize frOf xs = f at *
    generalize rdF xs = R at *
    generalize adOf xs 12 = a12 at *
    generalize adOf xs 16 = a16 at *
    generalize wat xs 2 = n2 at *
    generalize ihl xs = ih at *
    generalize faultN xs = F at *
    generalize batN xs 0 = x0 at *
    generalize batN xs 1 = x1 at *
    generalize batN xs 2 = x2 at *
    generalize batN xs 3 = x3 at *
    generalize batN xs 4 = x4 at *
    generalize batN xs 5 = x5 at *
    generalize batN xs 6 = x6 at *
    generalize batN xs 7 = x7 at *
    generalize batN xs 8 = x8 at *
    generalize batN xs 9 = x9 at *
    have H_ih := Lib.hid hih
    have H_n2 := Lib.hid hn2
    clear hih hn2
    have r1 : IntKind.i64.wrap ((x0 : Int) % 16) = (x0 : Int) % 16 := by rw [IntKind.wrap_i64]; omega
    have r2 : IntKind.i64.wrap ((x0 : Int) % 16 * 4) = (x0 : Int) % 16 * 4 := by rw [IntKind.wrap_i64]; omega
    have r3 : IntKind.i64.wrap (x2 : Int) = (x2 : Int) := by rw [IntKind.wrap_i64]; omega
    have r4 : IntKind.i64.wrap (x3 : Int) = (x3 : Int) := by rw [IntKind.wrap_i64]; omega
    have r5 : IntKind.i64.wrap (256 * (x2 : Int)) = 256 * (x2 : Int) := by rw [IntKind.wrap_i64]; omega
    have r6 : IntKind.i64.wrap (256 * (x2 : Int) + (x3 : Int)) = 256 * (x2 : Int) + (x3 : Int) := by rw [IntKind.wrap_i64]; omega
    have l0 : (0 : Int) < (len : Int) := by omega
    have l2 : (2 : Int) < (len : Int) := by omega
    have l3 : (3 : Int) < (len : Int) := by omega
    by_cases hv : x0 / 16 = 4
    · have v1 : ((x0 : Int) / 16 != 4) = false := by simp; omega
      have hv' := Lib.hid hv
      clear hv
      by_cases hh : ih < 20
      · have hh' : (x0 : Int) % 16 * 4 < 20 := by have := H_ih.out; omega
        have hF := F1.out (.inr hh)
        have hR := HP.out (by omega)
        subst hF hR
        go_enter Try.func32, Try.ntmps32
        go_wp2_with (first
          | ((with_reducible show wpList _ _ _ _ _ _); refine wpList_buildTo rfl 68 _ rfl (some 25) rfl (frL_8 Fr.zero).toArray (by kernel_rfl) ?_)
          | ((with_reducible show wpList _ _ _ _ _ _); rw [HZ.out]; refine wpList_storeR_8 rfl 68 _ _ rfl w.heap.size (by rfl) (frL_8 Fr.zero) (by rfl) _ HR0.out rfl (sizeFrL_8 HZO.out) (frL_one_8 _) ?_))
        refine bodyPost_ret (v := .tuple #[frC_8 Fr.zero, .int .i64 3]) (results_fr_8 rfl _ _ w.heap.size (by rfl) _ HZO.out (HR0.out.setRow_ _) _ (by rfl)) rfl ?_
        exact ⟨rfl, below_setRow HB0.out (Nat.le_refl _) _⟩
      · have hh' : ¬ (x0 : Int) % 16 * 4 < 20 := by have := H_ih.out; omega
        by_cases h3 : len < ih
        · have h3' : (len : Int) < (x0 : Int) % 16 * 4 := by have := H_ih.out; omega
          have hF := F2.out hv'.out (by omega) h3
          have hR := HP.out (by omega)
          subst hF hR
          go_enter Try.func32, Try.ntmps32
          go_wp2_with (first
            | ((with_reducible show wpList _ _ _ _ _ _); refine wpList_buildTo rfl 68 _ rfl (some 30) rfl (frL_8 Fr.zero).toArray (by kernel_rfl) ?_)
            | ((with_reducible show wpList _ _ _ _ _ _); rw [HZ.out]; refine wpList_storeR_8 rfl 68 _ _ rfl w.heap.size (by rfl) (frL_8 Fr.zero) (by rfl) _ HR0.out rfl (sizeFrL_8 HZO.out) (frL_one_8 _) ?_))
          refine bodyPost_ret (v := .tuple #[frC_8 Fr.zero, .int .i64 2]) (results_fr_8 rfl _ _ w.heap.size (by rfl) _ HZO.out (HR0.out.setRow_ _) _ (by rfl)) rfl ?_
          exact ⟨rfl, below_setRow HB0.out (Nat.le_refl _) _⟩
        · have h3' : ¬ (len : Int) < (x0 : Int) % 16 * 4 := by have := H_ih.out; omega
          go_enter Try.func32, Try.ntmps32
          go_wp2_with fail
          rw [HZ.out]
          rw [HZ.out] at c0 c2 c3
          go_quiet (fail)
          rename_i nq
          have HI1 := Lib.hid (show Rd (Z.drewN nq) w.heap.size (some ⟨b, off, none⟩) len xs from HI0.out)
          have HR1 := Lib.hid (show Blk_8 (Z.drewN nq) 68 w.heap.size (frL_8 Fr.zero) from HR0.out)
          have HB1 := Lib.hid (below_drewN HB0.out nq)
          have HBZ := Lib.hid (below_drewN (Below.refl w.heap.size Z) nq)
          rw [← H_ih.out, ← H_n2.out]
          clear c0 c2 c3 r1 r2 r3 r4 r5 r6 h3' hh'
          by_cases h4 : n2 < ih
          · have h4' : (n2 : Int) < (ih : Int) := by omega
            have hF := F3.out hv'.out (by omega) (by omega) h4
            have hR := HP.out (by omega)
            subst hF hR
            go_wp2_with (first
              | ((with_reducible show wpList _ _ _ _ _ _); refine wpList_buildTo rfl 68 _ rfl (some 44) rfl (frL_8 Fr.zero).toArray (by kernel_rfl) ?_)
              | ((with_reducible show wpList _ _ _ _ _ _); refine wpList_storeR_8 rfl 68 _ _ rfl w.heap.size (by rfl) (frL_8 Fr.zero) (by rfl) _ HR1.out rfl (sizeFrL_8 HZO.out) (frL_one_8 _) ?_))
            refine bodyPost_ret (v := .tuple #[frC_8 Fr.zero, .int .i64 3]) (results_fr_8 rfl _ _ w.heap.size (by rfl) _ HZO.out (HR1.out.setRow_ _) _ (by rfl)) rfl ?_
            exact ⟨rfl, below_setRow HB1.out (Nat.le_refl _) _⟩
          · have h4' : ¬ (n2 : Int) < (ih : Int) := by omega
            by_cases h5 : len < n2
            · have h5' : (len : Int) < (n2 : Int) := by omega
              have hF := F4.out hv'.out (by omega) (by omega) (by omega) h5
              have hR := HP.out (by omega)
              subst hF hR
              go_wp2_with (first
                | ((with_reducible show wpList _ _ _ _ _ _); refine wpList_buildTo rfl 68 _ rfl (some 49) rfl (frL_8 Fr.zero).toArray (by kernel_rfl) ?_)
                | ((with_reducible show wpList _ _ _ _ _ _); refine wpList_storeR_8 rfl 68 _ _ rfl w.heap.size (by rfl) (frL_8 Fr.zero) (by rfl) _ HR1.out rfl (sizeFrL_8 HZO.out) (frL_one_8 _) ?_))
              refine bodyPost_ret (v := .tuple #[frC_8 Fr.zero, .int .i64 2]) (results_fr_8 rfl _ _ w.heap.size (by rfl) _ HZO.out (HR1.out.setRow_ _) _ (by rfl)) rfl ?_
              exact ⟨rfl, below_setRow HB1.out (Nat.le_refl _) _⟩
            · have h5' : ¬ (len : Int) < (n2 : Int) := by omega
              have hr := (HT.out (by omega)).below HBZ.out
              have hcut := run_upto8 (some ⟨b, off, none⟩) len cap ih (ih : Int) rfl (by omega)
              have HS := Lib.hid (rsum_any (some ⟨b, off, none⟩) ih cap (xs.take ih) (by omega) _ hr HB1.out.size)
              by_cases h6 : ckOf (xs.take ih) = 0
              · have hF := F6.out hv'.out (by omega) (by omega) (by omega) (by omega) h6
                have hR := (HP0.out hF).symm
                subst hF hR
                rw [h6] at HS
                clear h6 hr
                go_wp2_with fail
                refine HS.out.mono ?_
                rintro e w1 ⟨rfl, hb1⟩
                have HR2 := Lib.hid (HR1.out.below HR1.out.lt hb1)
                have HB2 := Lib.hid (HB1.out.trans (hb1.mono HB1.out.size))
                have HBZ2 := Lib.hid (HBZ.out.trans (hb1.mono HB1.out.size))
                clear hb1 HR1 HB1 HS HI1
                have HR1 := HR2
                have HB1 := HB2
                clear HR2 HB2
                have l1 : (1 : Int) < (len : Int) := by omega
                have l4 : (4 : Int) < (len : Int) := by omega
                have l5 : (5 : Int) < (len : Int) := by omega
                have l6 : (6 : Int) < (len : Int) := by omega
                have l7 : (7 : Int) < (len : Int) := by omega
                have l8 : (8 : Int) < (len : Int) := by omega
                have l9 : (9 : Int) < (len : Int) := by omega
                have s1 : IntKind.i64.wrap (x1 : Int) = (x1 : Int) := by rw [IntKind.wrap_i64]; omega
                have s4 : IntKind.i64.wrap (x4 : Int) = (x4 : Int) := by rw [IntKind.wrap_i64]; omega
                have s5 : IntKind.i64.wrap (x5 : Int) = (x5 : Int) := by rw [IntKind.wrap_i64]; omega
                have s8 : IntKind.i64.wrap (x8 : Int) = (x8 : Int) := by rw [IntKind.wrap_i64]; omega
                have s9 : IntKind.i64.wrap (x9 : Int) = (x9 : Int) := by rw [IntKind.wrap_i64]; omega
                have s45 : IntKind.i64.wrap (256 * (x4 : Int)) = 256 * (x4 : Int) := by rw [IntKind.wrap_i64]; omega
                have s46 : IntKind.i64.wrap (256 * (x4 : Int) + (x5 : Int)) = 256 * (x4 : Int) + (x5 : Int) := by rw [IntKind.wrap_i64]; omega
                have D1 := Lib.hid (fun W (hW : Below w.heap.size w1 W) => C1.out W (HBZ2.out.trans hW))
                have D4 := Lib.hid (fun W (hW : Below w.heap.size w1 W) => C4.out W (HBZ2.out.trans hW))
                have D5 := Lib.hid (fun W (hW : Below w.heap.size w1 W) => C5.out W (HBZ2.out.trans hW))
                have D6 := Lib.hid (fun W (hW : Below w.heap.size w1 W) => C6.out W (HBZ2.out.trans hW))
                have D7 := Lib.hid (fun W (hW : Below w.heap.size w1 W) => C7.out W (HBZ2.out.trans hW))
                have D8 := Lib.hid (fun W (hW : Below w.heap.size w1 W) => C8.out W (HBZ2.out.trans hW))
                have D9 := Lib.hid (fun W (hW : Below w.heap.size w1 W) => C9.out W (HBZ2.out.trans hW))
                have E12 := Lib.hid (fun W (hW : Below w.heap.size w1 W) => HA12.out W (HBZ2.out.trans hW))
                have E16 := Lib.hid (fun W (hW : Below w.heap.size w1 W) => HA16.out W (HBZ2.out.trans hW))
                clear C1 C4 C5 C6 C7 C8 C9 HA12 HA16
                obtain ⟨ke, hke⟩ : ∃ ke, decide (x6 / 64 % 2 = 1) = ke := ⟨_, rfl⟩
                have k1 : (((x6 : Int) / 64 % 2) == 1) = ke := by
                  rw [← hke]
                  apply Bool.eq_iff_iff.2
                  rw [beq_iff_eq, decide_eq_true_eq]
                  omega
                rw [hke] at HBU
                have t6 : IntKind.u8.wrap ((x6 : Int) / 64) = (x6 : Int) / 64 := by rw [IntKind.wrap_u8]; omega
                have t62 : IntKind.u8.wrap ((x6 : Int) / 64 % 2) = (x6 : Int) / 64 % 2 := by rw [IntKind.wrap_u8]; omega
                have t64 : IntKind.u8.wrap ((x6 : Int) % 64) = (x6 : Int) % 64 := by rw [IntKind.wrap_u8]; omega
                have m64 : ((x6 : Int)).tmod 64 = (x6 : Int) % 64 := Int.tmod_eq_emod_of_nonneg (by omega)
                have m62 : ((x6 : Int) / 64).tmod 2 = (x6 : Int) / 64 % 2 := Int.tmod_eq_emod_of_nonneg (by omega)
                clear hke
                go_wp2_with fail
                by_cases h64 : x6 % 64 = 0
                · obtain ⟨fr, hfr⟩ : ∃ fr, decide (x7 ≠ 0) = fr := ⟨_, rfl⟩
                  have k2 : ((x7 : Int) != 0) = fr := by
                    rw [← hfr]
                    apply Bool.eq_iff_iff.2
                    simp
                  have k3 : ((x6 : Int) % 64 != 0) = false := by simp; omega
                  rw [hfr, show decide (x6 % 64 ≠ 0) = false by simp [h64], Bool.false_or] at HBU
                  clear hfr h64
                  refine wp_region_held_drew (S := fun W => Below w.heap.size w1 W) (by kernel_rfl) (Below.refl _ _).drew (fun hHeld => ?_)
                  refine tk 0 56 (.int .i64 (ih : Int)) rfl hHeld ?_
                  simp only [Act.put, sA, sZ, sS]
                  refine tk 1 57 (.int .i64 (n2 : Int)) rfl hHeld ?_
                  simp only [Act.put, sA, sZ, sS]
                  refine tk 2 58 (.slice (some ⟨b, off, none⟩) len cap) rfl hHeld ?_
                  simp only [Act.put, sA, sZ, sS]
                  refine tk 3 59 (.pointer (some ⟨b, off + 1, none⟩)) rfl hHeld ?_
                  simp only [Act.put, sA, sZ, sS]
                  refine tkY 4 60 (.int .u8 (x1 : Int)) rfl (Or.inl ⟨by rfl, fun W hW => by have hc := D1.out W hW; go_simp⟩) hHeld ?_
                  simp only [Act.put, sA, sZ, sS]
                  refine tk 5 61 (.int .i64 (x1 : Int)) rfl hHeld ?_
                  simp only [Act.put, sA, sZ, sS]
                  refine tk 6 62 (.slice (some ⟨b, off, none⟩) len cap) rfl hHeld ?_
                  simp only [Act.put, sA, sZ, sS]
                  refine tk 7 63 (.pointer (some ⟨b, off + 4, none⟩)) rfl hHeld ?_
                  simp only [Act.put, sA, sZ, sS]
                  refine tkY 8 64 (.int .u8 (x4 : Int)) rfl (Or.inl ⟨by rfl, fun W hW => by have hc := D4.out W hW; go_simp⟩) hHeld ?_
                  simp only [Act.put, sA, sZ, sS]
                  refine tk 9 65 (.int .i64 (x4 : Int)) rfl hHeld ?_
                  simp only [Act.put, sA, sZ, sS]
                  refine tk 10 66 (.int .i64 (256 * (x4 : Int))) rfl hHeld ?_
                  simp only [Act.put, sA, sZ, sS]
                  refine tk 11 67 (.slice (some ⟨b, off, none⟩) len cap) rfl hHeld ?_
                  simp only [Act.put, sA, sZ, sS]
                  refine tk 12 68 (.pointer (some ⟨b, off + 5, none⟩)) rfl hHeld ?_
                  simp only [Act.put, sA, sZ, sS]
                  refine tkY 13 69 (.int .u8 (x5 : Int)) rfl (Or.inl ⟨by rfl, fun W hW => by have hc := D5.out W hW; go_simp⟩) hHeld ?_
                  simp only [Act.put, sA, sZ, sS]
                  refine tk 14 70 (.int .i64 (x5 : Int)) rfl hHeld ?_
                  simp only [Act.put, sA, sZ, sS]
                  refine tk 15 71 (.int .i64 (256 * (x4 : Int) + (x5 : Int))) rfl hHeld ?_
                  simp only [Act.put, sA, sZ, sS]
                  refine tk 16 72 (.slice (some ⟨b, off, none⟩) len cap) rfl hHeld ?_
                  simp only [Act.put, sA, sZ, sS]
                  refine tk 17 73 (.pointer (some ⟨b, off + 6, none⟩)) rfl hHeld ?_
                  simp only [Act.put, sA, sZ, sS]
                  refine tkY 18 74 (.int .u8 (x6 : Int)) rfl (Or.inl ⟨by rfl, fun W hW => by have hc := D6.out W hW; go_simp⟩) hHeld ?_
                  simp only [Act.put, sA, sZ, sS]
                  refine tk 19 75 (.int .u8 ((x6 : Int) % 64)) rfl hHeld ?_
                  simp only [Act.put, sA, sZ, sS]
                  refine tk 20 76 (.bool false) rfl hHeld ?_
                  simp only [Act.put, sA, sZ, sS]
                  refine tk 21 77 (.bool false) rfl hHeld ?_
                  simp only [Act.put, sA, sZ, sS]
                  refine tk 22 78 (.slice (some ⟨b, off, none⟩) len cap) rfl hHeld ?_
                  simp only [Act.put, sA, sZ, sS]
                  refine tk 23 79 (.pointer (some ⟨b, off + 7, none⟩)) rfl hHeld ?_
                  simp only [Act.put, sA, sZ, sS]
                  refine tkY 24 80 (.int .u8 (x7 : Int)) rfl (Or.inl ⟨by rfl, fun W hW => by have hc := D7.out W hW; go_simp⟩) hHeld ?_
                  simp only [Act.put, sA, sZ, sS]
                  refine tk 25 81 (.bool fr) rfl hHeld ?_
                  simp only [Act.put, sA, sZ, sS]
                  refine tk 26 82 (.bool fr) rfl hHeld ?_
                  simp only [Act.put, sA, sZ, sS]
                  refine tk 27 83 (.slice (some ⟨b, off, none⟩) len cap) rfl hHeld ?_
                  simp only [Act.put, sA, sZ, sS]
                  refine tk 28 84 (.pointer (some ⟨b, off + 6, none⟩)) rfl hHeld ?_
                  simp only [Act.put, sA, sZ, sS]
                  refine tkY 29 85 (.int .u8 (x6 : Int)) rfl (Or.inl ⟨by rfl, fun W hW => by have hc := D6.out W hW; go_simp⟩) hHeld ?_
                  simp only [Act.put, sA, sZ, sS]
                  refine tk 30 86 (.int .u8 ((x6 : Int) / 64)) rfl hHeld ?_
                  simp only [Act.put, sA, sZ, sS]
                  refine tk 31 87 (.int .u8 ((x6 : Int) / 64 % 2)) rfl hHeld ?_
                  simp only [Act.put, sA, sZ, sS]
                  refine tk 32 88 (.bool ke) rfl hHeld ?_
                  simp only [Act.put, sA, sZ, sS]
                  refine tk 33 89 (.slice (some ⟨b, off, none⟩) len cap) rfl hHeld ?_
                  simp only [Act.put, sA, sZ, sS]
                  refine tk 34 90 (.pointer (some ⟨b, off + 8, none⟩)) rfl hHeld ?_
                  simp only [Act.put, sA, sZ, sS]
                  refine tkY 35 91 (.int .u8 (x8 : Int)) rfl (Or.inl ⟨by rfl, fun W hW => by have hc := D8.out W hW; go_simp⟩) hHeld ?_
                  simp only [Act.put, sA, sZ, sS]
                  refine tk 36 92 (.int .i64 (x8 : Int)) rfl hHeld ?_
                  simp only [Act.put, sA, sZ, sS]
                  refine tk 37 93 (.slice (some ⟨b, off, none⟩) len cap) rfl hHeld ?_
                  simp only [Act.put, sA, sZ, sS]
                  refine tk 38 94 (.pointer (some ⟨b, off + 9, none⟩)) rfl hHeld ?_
                  simp only [Act.put, sA, sZ, sS]
                  refine tkY 39 95 (.int .u8 (x9 : Int)) rfl (Or.inl ⟨by rfl, fun W hW => by have hc := D9.out W hW; go_simp⟩) hHeld ?_
                  simp only [Act.put, sA, sZ, sS]
                  refine tk 40 96 (.int .i64 (x9 : Int)) rfl hHeld ?_
                  simp only [Act.put, sA, sZ, sS]
                  refine tk 41 97 (.slice (some ⟨b, off, none⟩) len cap) rfl hHeld ?_
                  simp only [Act.put, sA, sZ, sS]
                  refine tk 43 99 (.slice (some ⟨b, off, none⟩) len cap) rfl hHeld ?_
                  simp only [Act.put, sA, sZ, sS]
                  have HR2 : Hid (Blk_8 w1.drew 68 w.heap.size (frL_8 Fr.zero)) := Lib.hid HR1.out
                  refine wpAnyH_ready (rs := [42]) (by kernel_rfl) (by simp) (AllReadyH.cons (o := ⟨some 98, _, _, _, _, _⟩) rfl (fun K hK => ?_) AllReadyH.nil)
                  go_simp
                  refine (E12.out _ hHeld).mono ?_
                  rintro e w3 ⟨rfl, hb3⟩
                  have HR3 := Lib.hid (HR2.out.below HR2.out.lt hb3)
                  refine hK.out _ _ (hHeld.trans (hb3.mono (Nat.le_trans HB1.out.size hHeld.size))) (fun hHeld => ?_)
                  clear hK K hb3 HR2
                  refine wpAnyH_ready (rs := [44]) (by kernel_rfl) (by simp) (AllReadyH.cons (o := ⟨some 100, _, _, _, _, _⟩) rfl (fun K hK => ?_) AllReadyH.nil)
                  go_simp
                  refine (E16.out _ hHeld).mono ?_
                  rintro e w4 ⟨rfl, hb4⟩
                  have HR4 := Lib.hid (HR3.out.below HR3.out.lt hb4)
                  refine hK.out _ _ (hHeld.trans (hb4.mono (Nat.le_trans HB1.out.size hHeld.size))) (fun hHeld => ?_)
                  clear hK K hb4 HR3
                  refine tkY 45 101 (.agg (frL_8 f).toArray) rfl (yields_build (by rfl) 68 _ rfl _ (by kernel_rfl) _ HBU.out) hHeld ?_
                  simp only [Act.put, sA, sZ, sS]
                  refine wpAnyH_ready (rs := [46]) (by kernel_rfl) (by simp) (AllReadyH.cons (o := ⟨none, _, _, _, _, _⟩) rfl (fun K hK => ?_) AllReadyH.nil)
                  refine step_storeR_8 rfl 68 _ _ rfl w.heap.size (by rfl) (frL_8 f) (by rfl) _ HR4.out (by rw [frL_len_8 HOK.out]; rfl) (sizeFrL_8 HOK.out) (frL_one_8 _) ?_
                  have hR9 := Lib.hid (HR4.out.setRow_ (frL_8 f))
                  refine hK.out _ _ (below_setRow hHeld (Nat.le_refl _) _) (fun hHeld => ?_)
                  clear hK K
                  refine tk 47 3 (.int .i64 0) rfl hHeld ?_
                  simp only [Act.put, sA, sZ, sS]
                  refine wpAnyH_done (by kernel_rfl) ?_ _
                  go_wp2_with fail
                  refine bodyPost_ret (v := .tuple #[frC_8 f, .int .i64 0]) (results_fr_8 rfl _ _ w.heap.size (by rfl) _ HOK.out hR9.out _ (by rfl)) rfl ?_
                  exact ⟨rfl, HB1.out.trans hHeld⟩
                · have k3 : ((x6 : Int) % 64 != 0) = true := by simp; omega
                  rw [show decide (x6 % 64 ≠ 0) = true by simp [h64], Bool.true_or] at HBU
                  clear h64
                  refine wp_region_held_drew (S := fun W => Below w.heap.size w1 W) (by kernel_rfl) (Below.refl _ _).drew (fun hHeld => ?_)
                  refine tk 0 56 (.int .i64 (ih : Int)) rfl hHeld ?_
                  simp only [Act.put, sA, sZ, sS]
                  refine tk 1 57 (.int .i64 (n2 : Int)) rfl hHeld ?_
                  simp only [Act.put, sA, sZ, sS]
                  refine tk 2 58 (.slice (some ⟨b, off, none⟩) len cap) rfl hHeld ?_
                  simp only [Act.put, sA, sZ, sS]
                  refine tk 3 59 (.pointer (some ⟨b, off + 1, none⟩)) rfl hHeld ?_
                  simp only [Act.put, sA, sZ, sS]
                  refine tkY 4 60 (.int .u8 (x1 : Int)) rfl (Or.inl ⟨by rfl, fun W hW => by have hc := D1.out W hW; go_simp⟩) hHeld ?_
                  simp only [Act.put, sA, sZ, sS]
                  refine tk 5 61 (.int .i64 (x1 : Int)) rfl hHeld ?_
                  simp only [Act.put, sA, sZ, sS]
                  refine tk 6 62 (.slice (some ⟨b, off, none⟩) len cap) rfl hHeld ?_
                  simp only [Act.put, sA, sZ, sS]
                  refine tk 7 63 (.pointer (some ⟨b, off + 4, none⟩)) rfl hHeld ?_
                  simp only [Act.put, sA, sZ, sS]
                  refine tkY 8 64 (.int .u8 (x4 : Int)) rfl (Or.inl ⟨by rfl, fun W hW => by have hc := D4.out W hW; go_simp⟩) hHeld ?_
                  simp only [Act.put, sA, sZ, sS]
                  refine tk 9 65 (.int .i64 (x4 : Int)) rfl hHeld ?_
                  simp only [Act.put, sA, sZ, sS]
                  refine tk 10 66 (.int .i64 (256 * (x4 : Int))) rfl hHeld ?_
                  simp only [Act.put, sA, sZ, sS]
                  refine tk 11 67 (.slice (some ⟨b, off, none⟩) len cap) rfl hHeld ?_
                  simp only [Act.put, sA, sZ, sS]
                  refine tk 12 68 (.pointer (some ⟨b, off + 5, none⟩)) rfl hHeld ?_
                  simp only [Act.put, sA, sZ, sS]
                  refine tkY 13 69 (.int .u8 (x5 : Int)) rfl (Or.inl ⟨by rfl, fun W hW => by have hc := D5.out W hW; go_simp⟩) hHeld ?_
                  simp only [Act.put, sA, sZ, sS]
                  refine tk 14 70 (.int .i64 (x5 : Int)) rfl hHeld ?_
                  simp only [Act.put, sA, sZ, sS]
                  refine tk 15 71 (.int .i64 (256 * (x4 : Int) + (x5 : Int))) rfl hHeld ?_
                  simp only [Act.put, sA, sZ, sS]
                  refine tk 16 72 (.slice (some ⟨b, off, none⟩) len cap) rfl hHeld ?_
                  simp only [Act.put, sA, sZ, sS]
                  refine tk 17 73 (.pointer (some ⟨b, off + 6, none⟩)) rfl hHeld ?_
                  simp only [Act.put, sA, sZ, sS]
                  refine tkY 18 74 (.int .u8 (x6 : Int)) rfl (Or.inl ⟨by rfl, fun W hW => by have hc := D6.out W hW; go_simp⟩) hHeld ?_
                  simp only [Act.put, sA, sZ, sS]
                  refine tk 19 75 (.int .u8 ((x6 : Int) % 64)) rfl hHeld ?_
                  simp only [Act.put, sA, sZ, sS]
                  refine tk 20 76 (.bool true) rfl hHeld ?_
                  simp only [Act.put, sA, sZ, sS]
                  refine tk 21 77 (.bool true) rfl hHeld ?_
                  simp only [Act.put, sA, sZ, sS]
                  refine tkN 22 78 rfl hHeld ?_
                  simp only [Act.put, sA, sZ, sS]
                  refine tkN 23 79 rfl hHeld ?_
                  simp only [Act.put, sA, sZ, sS]
                  refine tkN 24 80 rfl hHeld ?_
                  simp only [Act.put, sA, sZ, sS]
                  refine tkN 25 81 rfl hHeld ?_
                  simp only [Act.put, sA, sZ, sS]
                  refine tk 26 82 (.bool true) rfl hHeld ?_
                  simp only [Act.put, sA, sZ, sS]
                  refine tk 27 83 (.slice (some ⟨b, off, none⟩) len cap) rfl hHeld ?_
                  simp only [Act.put, sA, sZ, sS]
                  refine tk 28 84 (.pointer (some ⟨b, off + 6, none⟩)) rfl hHeld ?_
                  simp only [Act.put, sA, sZ, sS]
                  refine tkY 29 85 (.int .u8 (x6 : Int)) rfl (Or.inl ⟨by rfl, fun W hW => by have hc := D6.out W hW; go_simp⟩) hHeld ?_
                  simp only [Act.put, sA, sZ, sS]
                  refine tk 30 86 (.int .u8 ((x6 : Int) / 64)) rfl hHeld ?_
                  simp only [Act.put, sA, sZ, sS]
                  refine tk 31 87 (.int .u8 ((x6 : Int) / 64 % 2)) rfl hHeld ?_
                  simp only [Act.put, sA, sZ, sS]
                  refine tk 32 88 (.bool ke) rfl hHeld ?_
                  simp only [Act.put, sA, sZ, sS]
                  refine tk 33 89 (.slice (some ⟨b, off, none⟩) len cap) rfl hHeld ?_
                  simp only [Act.put, sA, sZ, sS]
                  refine tk 34 90 (.pointer (some ⟨b, off + 8, none⟩)) rfl hHeld ?_
                  simp only [Act.put, sA, sZ, sS]
                  refine tkY 35 91 (.int .u8 (x8 : Int)) rfl (Or.inl ⟨by rfl, fun W hW => by have hc := D8.out W hW; go_simp⟩) hHeld ?_
                  simp only [Act.put, sA, sZ, sS]
                  refine tk 36 92 (.int .i64 (x8 : Int)) rfl hHeld ?_
                  simp only [Act.put, sA, sZ, sS]
                  refine tk 37 93 (.slice (some ⟨b, off, none⟩) len cap) rfl hHeld ?_
                  simp only [Act.put, sA, sZ, sS]
                  refine tk 38 94 (.pointer (some ⟨b, off + 9, none⟩)) rfl hHeld ?_
                  simp only [Act.put, sA, sZ, sS]
                  refine tkY 39 95 (.int .u8 (x9 : Int)) rfl (Or.inl ⟨by rfl, fun W hW => by have hc := D9.out W hW; go_simp⟩) hHeld ?_
                  simp only [Act.put, sA, sZ, sS]
                  refine tk 40 96 (.int .i64 (x9 : Int)) rfl hHeld ?_
                  simp only [Act.put, sA, sZ, sS]
                  refine tk 41 97 (.slice (some ⟨b, off, none⟩) len cap) rfl hHeld ?_
                  simp only [Act.put, sA, sZ, sS]
                  refine tk 43 99 (.slice (some ⟨b, off, none⟩) len cap) rfl hHeld ?_
                  simp only [Act.put, sA, sZ, sS]
                  have HR2 : Hid (Blk_8 w1.drew 68 w.heap.size (frL_8 Fr.zero)) := Lib.hid HR1.out
                  refine wpAnyH_ready (rs := [42]) (by kernel_rfl) (by simp) (AllReadyH.cons (o := ⟨some 98, _, _, _, _, _⟩) rfl (fun K hK => ?_) AllReadyH.nil)
                  go_simp
                  refine (E12.out _ hHeld).mono ?_
                  rintro e w3 ⟨rfl, hb3⟩
                  have HR3 := Lib.hid (HR2.out.below HR2.out.lt hb3)
                  refine hK.out _ _ (hHeld.trans (hb3.mono (Nat.le_trans HB1.out.size hHeld.size))) (fun hHeld => ?_)
                  clear hK K hb3 HR2
                  refine wpAnyH_ready (rs := [44]) (by kernel_rfl) (by simp) (AllReadyH.cons (o := ⟨some 100, _, _, _, _, _⟩) rfl (fun K hK => ?_) AllReadyH.nil)
                  go_simp
                  refine (E16.out _ hHeld).mono ?_
                  rintro e w4 ⟨rfl, hb4⟩
                  have HR4 := Lib.hid (HR3.out.below HR3.out.lt hb4)
                  refine hK.out _ _ (hHeld.trans (hb4.mono (Nat.le_trans HB1.out.size hHeld.size))) (fun hHeld => ?_)
                  clear hK K hb4 HR3
                  refine tkY 45 101 (.agg (frL_8 f).toArray) rfl (yields_build (by rfl) 68 _ rfl _ (by kernel_rfl) _ HBU.out) hHeld ?_
                  simp only [Act.put, sA, sZ, sS]
                  refine wpAnyH_ready (rs := [46]) (by kernel_rfl) (by simp) (AllReadyH.cons (o := ⟨none, _, _, _, _, _⟩) rfl (fun K hK => ?_) AllReadyH.nil)
                  refine step_storeR_8 rfl 68 _ _ rfl w.heap.size (by rfl) (frL_8 f) (by rfl) _ HR4.out (by rw [frL_len_8 HOK.out]; rfl) (sizeFrL_8 HOK.out) (frL_one_8 _) ?_
                  have hR9 := Lib.hid (HR4.out.setRow_ (frL_8 f))
                  refine hK.out _ _ (below_setRow hHeld (Nat.le_refl _) _) (fun hHeld => ?_)
                  clear hK K
                  refine tk 47 3 (.int .i64 0) rfl hHeld ?_
                  simp only [Act.put, sA, sZ, sS]
                  refine wpAnyH_done (by kernel_rfl) ?_ _
                  go_wp2_with fail
                  refine bodyPost_ret (v := .tuple #[frC_8 f, .int .i64 0]) (results_fr_8 rfl _ _ w.heap.size (by rfl) _ HOK.out hR9.out _ (by rfl)) rfl ?_
                  exact ⟨rfl, HB1.out.trans hHeld⟩
              · have hF := F5.out hv'.out (by omega) (by omega) (by omega) (by omega) h6
                have hR := HP.out (by omega)
                subst hF hR
                have hck := ckOf_le (xs.take ih)
                obtain ⟨c, hc⟩ : ∃ c, ckOf (xs.take ih) = c := ⟨_, rfl⟩
                rw [hc] at HS h6 hck
                have h6' : ((c : Int) != 0) = true := by simp; omega
                clear hc hr
                go_wp2_with fail
                refine HS.out.mono ?_
                rintro e w1 ⟨rfl, hb1⟩
                have HR2 := Lib.hid (HR1.out.below HR1.out.lt hb1)
                have HB2 := Lib.hid (HB1.out.trans (hb1.mono HB1.out.size))
                clear hb1
                go_wp2_with (first
                  | ((with_reducible show wpList _ _ _ _ _ _); refine wpList_buildTo rfl 68 _ rfl (some 55) rfl (frL_8 Fr.zero).toArray (by kernel_rfl) ?_)
                  | ((with_reducible show wpList _ _ _ _ _ _); refine wpList_storeR_8 rfl 68 _ _ rfl w.heap.size (by rfl) (frL_8 Fr.zero) (by rfl) _ HR2.out rfl (sizeFrL_8 HZO.out) (frL_one_8 _) ?_))
                refine bodyPost_ret (v := .tuple #[frC_8 Fr.zero, .int .i64 8]) (results_fr_8 rfl _ _ w.heap.size (by rfl) _ HZO.out (HR2.out.setRow_ _) _ (by rfl)) rfl ?_
                exact ⟨rfl, below_setRow HB2.out (Nat.le_refl _) _⟩
    · have v1 : ((x0 : Int) / 16 != 4) = true := by simp; omega
      have hF := F1.out (.inl hv)
      have hR := HP.out (by omega)
      subst hF hR
      clear hv
      go_enter Try.func32, Try.ntmps32
      go_wp2_with (first
        | ((with_reducible show wpList _ _ _ _ _ _); refine wpList_buildTo rfl 68 _ rfl (some 25) rfl (frL_8 Fr.zero).toArray (by kernel_rfl) ?_)
        | ((with_reducible show wpList _ _ _ _ _ _); rw [HZ.out]; refine wpList_storeR_8 rfl 68 _ _ rfl w.heap.size (by rfl) (frL_8 Fr.zero) (by rfl) _ HR0.out rfl (sizeFrL_8 HZO.out) (frL_one_8 _) ?_))
      refine bodyPost_ret (v := .tuple #[frC_8 Fr.zero, .int .i64 3]) (results_fr_8 rfl _ _ w.heap.size (by rfl) _ HZO.out (HR0.out.setRow_ _) _ (by rfl)) rfl ?_
      exact ⟨rfl, below_setRow HB0.out (Nat.le_refl _) _⟩
  · have h20' : (len : Int) < 20 := by omega
    have hF : faultN xs = 2 := fault_short (by rw [HL.out]; omega)
    rw [rdF_no (by omega), hF]
    clear hF
    go_enter Try.func32, Try.ntmps32
    go_wp2_with (first
      | ((with_reducible show wpList _ _ _ _ _ _); refine wpList_buildTo rfl 68 _ rfl (some 9) rfl (frL_8 Fr.zero).toArray (by kernel_rfl) ?_)
      | ((with_reducible show wpList _ _ _ _ _ _); rw [HZ.out]; refine wpList_storeR_8 rfl 68 _ _ rfl w.heap.size (by rfl) (frL_8 Fr.zero) (by rfl) _ HR0.out rfl (sizeFrL_8 HZO.out) (frL_one_8 _) ?_))
    refine bodyPost_ret (v := .tuple #[frC_8 Fr.zero, .int .i64 2]) (results_fr_8 rfl _ _ w.heap.size (by rfl) _ HZO.out (HR0.out.setRow_ _) _ (by rfl)) rfl ?_
    exact ⟨rfl, below_setRow HB0.out (Nat.le_refl _) _⟩
end
section
open Go.RowKit Go.Lib
set_option maxRecDepth 100000 in
set_option maxHeartbeats 2000000 in
theorem maybe_0_8 {h0 h1 h2 h3 : Int} {h4 h5 : Bool} {h6 h7 : Int} {A B : Ad} (hok : Fr.Ok ⟨h0, h1, h2, h3, h4, h5, h6, h7, A, B⟩) (e0 : h0 ≠ 20) (w : World) :
    Calls Try.prog 58 #[frC_8 ⟨h0, h1, h2, h3, h4, h5, h6, h7, A, B⟩] w fun e w' => e = .returned (.bool false) ∧ Below w.heap.size w w' := by
  have hA : A.b.length = 16 := hok.s
  have hB : B.b.length = 16 := hok.d
  have hb1 := Blk_8.new w 68 (frL_8 ⟨h0, h1, h2, h3, h4, h5, h6, h7, A, B⟩)
  have hB1 := (Below.refl w.heap.size w).alloc (Nat.le_refl _) (.cells (frL_8 ⟨h0, h1, h2, h3, h4, h5, h6, h7, A, B⟩).toArray 68)
  have hz1 : (w.alloc (.cells (frL_8 ⟨h0, h1, h2, h3, h4, h5, h6, h7, A, B⟩).toArray 68)).heap.size = w.heap.size + 1 := by simp
  have k0 := hb1.cell (i := 0) (v := .int .i64 h0) rfl
  have k1 := hb1.cell (i := 1) (v := .int .i64 h1) rfl
  have k2 := hb1.cell (i := 2) (v := .int .i64 h2) rfl
  have k3 := hb1.cell (i := 3) (v := .int .i64 h3) rfl
  have k4 := hb1.cell (i := 4) (v := .bool h4) rfl
  have k6 := hb1.cell (i := 6) (v := .int .i64 h6) rfl
  have k7 := hb1.cell (i := 7) (v := .int .i64 h7) rfl
  have kA := Lib.hid hb1.src
  have kB := Lib.hid (hb1.dst hok)
  unfold frC_8
  generalize frL_8 ⟨h0, h1, h2, h3, h4, h5, h6, h7, A, B⟩ = C at *
  have q0 : (h0 == 20) = false := beq_eq_false_iff_ne.2 e0
  clear hb1
  go_enter Try.func58, Try.ntmps58
  go_wp2_with fail
  go_ret
  exact ⟨rfl, hB1⟩
set_option maxRecDepth 100000 in
set_option maxHeartbeats 2000000 in
theorem maybe_1_8 {h0 h1 h2 h3 : Int} {h4 h5 : Bool} {h6 h7 : Int} {A B : Ad} (hok : Fr.Ok ⟨h0, h1, h2, h3, h4, h5, h6, h7, A, B⟩) (e0 : h0 = 20) (e1 : inB h1 20 65535 = false) (w : World) :
    Calls Try.prog 58 #[frC_8 ⟨h0, h1, h2, h3, h4, h5, h6, h7, A, B⟩] w fun e w' => e = .returned (.bool false) ∧ Below w.heap.size w w' := by
  have hA : A.b.length = 16 := hok.s
  have hB : B.b.length = 16 := hok.d
  have hb1 := Blk_8.new w 68 (frL_8 ⟨h0, h1, h2, h3, h4, h5, h6, h7, A, B⟩)
  have hB1 := (Below.refl w.heap.size w).alloc (Nat.le_refl _) (.cells (frL_8 ⟨h0, h1, h2, h3, h4, h5, h6, h7, A, B⟩).toArray 68)
  have hz1 : (w.alloc (.cells (frL_8 ⟨h0, h1, h2, h3, h4, h5, h6, h7, A, B⟩).toArray 68)).heap.size = w.heap.size + 1 := by simp
  have k0 := hb1.cell (i := 0) (v := .int .i64 h0) rfl
  have k1 := hb1.cell (i := 1) (v := .int .i64 h1) rfl
  have k2 := hb1.cell (i := 2) (v := .int .i64 h2) rfl
  have k3 := hb1.cell (i := 3) (v := .int .i64 h3) rfl
  have k4 := hb1.cell (i := 4) (v := .bool h4) rfl
  have k6 := hb1.cell (i := 6) (v := .int .i64 h6) rfl
  have k7 := hb1.cell (i := 7) (v := .int .i64 h7) rfl
  have kA := Lib.hid hb1.src
  have kB := Lib.hid (hb1.dst hok)
  unfold frC_8
  generalize frL_8 ⟨h0, h1, h2, h3, h4, h5, h6, h7, A, B⟩ = C at *
  subst e0
  have H1 := Lib.hid (fun W => e1 ▸ within_any_8 h1 20 65535 W)
  clear hb1
  go_enter Try.func58, Try.ntmps58
  go_wp2_with fail
  refine (H1.out _).mono ?_
  rintro e w2 ⟨rfl, rfl⟩
  go_wp2_with fail
  go_ret
  exact ⟨rfl, hB1⟩
set_option maxRecDepth 100000 in
set_option maxHeartbeats 2000000 in
theorem maybe_2_8 {h0 h1 h2 h3 : Int} {h4 h5 : Bool} {h6 h7 : Int} {A B : Ad} (hok : Fr.Ok ⟨h0, h1, h2, h3, h4, h5, h6, h7, A, B⟩) (e0 : h0 = 20) (e1 : inB h1 20 65535 = true) (e2 : h4 = true) (w : World) :
    Calls Try.prog 58 #[frC_8 ⟨h0, h1, h2, h3, h4, h5, h6, h7, A, B⟩] w fun e w' => e = .returned (.bool false) ∧ Below w.heap.size w w' := by
  have hA : A.b.length = 16 := hok.s
  have hB : B.b.length = 16 := hok.d
  have hb1 := Blk_8.new w 68 (frL_8 ⟨h0, h1, h2, h3, h4, h5, h6, h7, A, B⟩)
  have hB1 := (Below.refl w.heap.size w).alloc (Nat.le_refl _) (.cells (frL_8 ⟨h0, h1, h2, h3, h4, h5, h6, h7, A, B⟩).toArray 68)
  have hz1 : (w.alloc (.cells (frL_8 ⟨h0, h1, h2, h3, h4, h5, h6, h7, A, B⟩).toArray 68)).heap.size = w.heap.size + 1 := by simp
  have k0 := hb1.cell (i := 0) (v := .int .i64 h0) rfl
  have k1 := hb1.cell (i := 1) (v := .int .i64 h1) rfl
  have k2 := hb1.cell (i := 2) (v := .int .i64 h2) rfl
  have k3 := hb1.cell (i := 3) (v := .int .i64 h3) rfl
  have k4 := hb1.cell (i := 4) (v := .bool h4) rfl
  have k6 := hb1.cell (i := 6) (v := .int .i64 h6) rfl
  have k7 := hb1.cell (i := 7) (v := .int .i64 h7) rfl
  have kA := Lib.hid hb1.src
  have kB := Lib.hid (hb1.dst hok)
  unfold frC_8
  generalize frL_8 ⟨h0, h1, h2, h3, h4, h5, h6, h7, A, B⟩ = C at *
  subst e0
  have H1 := Lib.hid (fun W => e1 ▸ within_any_8 h1 20 65535 W)
  subst e2
  clear hb1
  go_enter Try.func58, Try.ntmps58
  go_wp2_with fail
  refine (H1.out _).mono ?_
  rintro e w2 ⟨rfl, rfl⟩
  go_wp2_with fail
  go_ret
  exact ⟨rfl, hB1⟩
set_option maxRecDepth 100000 in
set_option maxHeartbeats 2000000 in
theorem maybe_3_8 {h0 h1 h2 h3 : Int} {h4 h5 : Bool} {h6 h7 : Int} {A B : Ad} (hok : Fr.Ok ⟨h0, h1, h2, h3, h4, h5, h6, h7, A, B⟩) (e0 : h0 = 20) (e1 : inB h1 20 65535 = true) (e2 : h4 = false) (e3 : inB h2 0 255 = false) (w : World) :
    Calls Try.prog 58 #[frC_8 ⟨h0, h1, h2, h3, h4, h5, h6, h7, A, B⟩] w fun e w' => e = .returned (.bool false) ∧ Below w.heap.size w w' := by
  have hA : A.b.length = 16 := hok.s
  have hB : B.b.length = 16 := hok.d
  have hb1 := Blk_8.new w 68 (frL_8 ⟨h0, h1, h2, h3, h4, h5, h6, h7, A, B⟩)
  have hB1 := (Below.refl w.heap.size w).alloc (Nat.le_refl _) (.cells (frL_8 ⟨h0, h1, h2, h3, h4, h5, h6, h7, A, B⟩).toArray 68)
  have hz1 : (w.alloc (.cells (frL_8 ⟨h0, h1, h2, h3, h4, h5, h6, h7, A, B⟩).toArray 68)).heap.size = w.heap.size + 1 := by simp
  have k0 := hb1.cell (i := 0) (v := .int .i64 h0) rfl
  have k1 := hb1.cell (i := 1) (v := .int .i64 h1) rfl
  have k2 := hb1.cell (i := 2) (v := .int .i64 h2) rfl
  have k3 := hb1.cell (i := 3) (v := .int .i64 h3) rfl
  have k4 := hb1.cell (i := 4) (v := .bool h4) rfl
  have k6 := hb1.cell (i := 6) (v := .int .i64 h6) rfl
  have k7 := hb1.cell (i := 7) (v := .int .i64 h7) rfl
  have kA := Lib.hid hb1.src
  have kB := Lib.hid (hb1.dst hok)
  unfold frC_8
  generalize frL_8 ⟨h0, h1, h2, h3, h4, h5, h6, h7, A, B⟩ = C at *
  subst e0
  have H1 := Lib.hid (fun W => e1 ▸ within_any_8 h1 20 65535 W)
  subst e2
  have H3 := Lib.hid (fun W => e3 ▸ within_any_8 h2 0 255 W)
  clear hb1
  go_enter Try.func58, Try.ntmps58
  go_wp2_with fail
  refine (H1.out _).mono ?_
  rintro e w2 ⟨rfl, rfl⟩
  go_wp2_with fail
  refine (H3.out _).mono ?_
  rintro e w2 ⟨rfl, rfl⟩
  go_wp2_with fail
  go_ret
  exact ⟨rfl, hB1⟩
set_option maxRecDepth 100000 in
set_option maxHeartbeats 2000000 in
theorem maybe_4_8 {h0 h1 h2 h3 : Int} {h4 h5 : Bool} {h6 h7 : Int} {A B : Ad} (hok : Fr.Ok ⟨h0, h1, h2, h3, h4, h5, h6, h7, A, B⟩) (e0 : h0 = 20) (e1 : inB h1 20 65535 = true) (e2 : h4 = false) (e3 : inB h2 0 255 = true) (e4 : inB h6 0 255 = false) (w : World) :
    Calls Try.prog 58 #[frC_8 ⟨h0, h1, h2, h3, h4, h5, h6, h7, A, B⟩] w fun e w' => e = .returned (.bool false) ∧ Below w.heap.size w w' := by
  have hA : A.b.length = 16 := hok.s
  have hB : B.b.length = 16 := hok.d
  have hb1 := Blk_8.new w 68 (frL_8 ⟨h0, h1, h2, h3, h4, h5, h6, h7, A, B⟩)
  have hB1 := (Below.refl w.heap.size w).alloc (Nat.le_refl _) (.cells (frL_8 ⟨h0, h1, h2, h3, h4, h5, h6, h7, A, B⟩).toArray 68)
  have hz1 : (w.alloc (.cells (frL_8 ⟨h0, h1, h2, h3, h4, h5, h6, h7, A, B⟩).toArray 68)).heap.size = w.heap.size + 1 := by simp
  have k0 := hb1.cell (i := 0) (v := .int .i64 h0) rfl
  have k1 := hb1.cell (i := 1) (v := .int .i64 h1) rfl
  have k2 := hb1.cell (i := 2) (v := .int .i64 h2) rfl
  have k3 := hb1.cell (i := 3) (v := .int .i64 h3) rfl
  have k4 := hb1.cell (i := 4) (v := .bool h4) rfl
  have k6 := hb1.cell (i := 6) (v := .int .i64 h6) rfl
  have k7 := hb1.cell (i := 7) (v := .int .i64 h7) rfl
  have kA := Lib.hid hb1.src
  have kB := Lib.hid (hb1.dst hok)
  unfold frC_8
  generalize frL_8 ⟨h0, h1, h2, h3, h4, h5, h6, h7, A, B⟩ = C at *
  subst e0
  have H1 := Lib.hid (fun W => e1 ▸ within_any_8 h1 20 65535 W)
  subst e2
  have H3 := Lib.hid (fun W => e3 ▸ within_any_8 h2 0 255 W)
  have H4 := Lib.hid (fun W => e4 ▸ within_any_8 h6 0 255 W)
  clear hb1
  go_enter Try.func58, Try.ntmps58
  go_wp2_with fail
  refine (H1.out _).mono ?_
  rintro e w2 ⟨rfl, rfl⟩
  go_wp2_with fail
  refine (H3.out _).mono ?_
  rintro e w2 ⟨rfl, rfl⟩
  go_wp2_with fail
  refine (H4.out _).mono ?_
  rintro e w2 ⟨rfl, rfl⟩
  go_wp2_with fail
  go_ret
  exact ⟨rfl, hB1⟩
set_option maxRecDepth 100000 in
set_option maxHeartbeats 2000000 in
theorem maybe_5_8 {h0 h1 h2 h3 : Int} {h4 h5 : Bool} {h6 h7 : Int} {A B : Ad} (hok : Fr.Ok ⟨h0, h1, h2, h3, h4, h5, h6, h7, A, B⟩) (e0 : h0 = 20) (e1 : inB h1 20 65535 = true) (e2 : h4 = false) (e3 : inB h2 0 255 = true) (e4 : inB h6 0 255 = true) (e5 : inB h7 0 255 = false) (w : World) :
    Calls Try.prog 58 #[frC_8 ⟨h0, h1, h2, h3, h4, h5, h6, h7, A, B⟩] w fun e w' => e = .returned (.bool false) ∧ Below w.heap.size w w' := by
  have hA : A.b.length = 16 := hok.s
  have hB : B.b.length = 16 := hok.d
  have hb1 := Blk_8.new w 68 (frL_8 ⟨h0, h1, h2, h3, h4, h5, h6, h7, A, B⟩)
  have hB1 := (Below.refl w.heap.size w).alloc (Nat.le_refl _) (.cells (frL_8 ⟨h0, h1, h2, h3, h4, h5, h6, h7, A, B⟩).toArray 68)
  have hz1 : (w.alloc (.cells (frL_8 ⟨h0, h1, h2, h3, h4, h5, h6, h7, A, B⟩).toArray 68)).heap.size = w.heap.size + 1 := by simp
  have k0 := hb1.cell (i := 0) (v := .int .i64 h0) rfl
  have k1 := hb1.cell (i := 1) (v := .int .i64 h1) rfl
  have k2 := hb1.cell (i := 2) (v := .int .i64 h2) rfl
  have k3 := hb1.cell (i := 3) (v := .int .i64 h3) rfl
  have k4 := hb1.cell (i := 4) (v := .bool h4) rfl
  have k6 := hb1.cell (i := 6) (v := .int .i64 h6) rfl
  have k7 := hb1.cell (i := 7) (v := .int .i64 h7) rfl
  have kA := Lib.hid hb1.src
  have kB := Lib.hid (hb1.dst hok)
  unfold frC_8
  generalize frL_8 ⟨h0, h1, h2, h3, h4, h5, h6, h7, A, B⟩ = C at *
  subst e0
  have H1 := Lib.hid (fun W => e1 ▸ within_any_8 h1 20 65535 W)
  subst e2
  have H3 := Lib.hid (fun W => e3 ▸ within_any_8 h2 0 255 W)
  have H4 := Lib.hid (fun W => e4 ▸ within_any_8 h6 0 255 W)
  have H5 := Lib.hid (fun W => e5 ▸ within_any_8 h7 0 255 W)
  clear hb1
  go_enter Try.func58, Try.ntmps58
  go_wp2_with fail
  refine (H1.out _).mono ?_
  rintro e w2 ⟨rfl, rfl⟩
  go_wp2_with fail
  refine (H3.out _).mono ?_
  rintro e w2 ⟨rfl, rfl⟩
  go_wp2_with fail
  refine (H4.out _).mono ?_
  rintro e w2 ⟨rfl, rfl⟩
  go_wp2_with fail
  refine (H5.out _).mono ?_
  rintro e w2 ⟨rfl, rfl⟩
  go_wp2_with fail
  go_ret
  exact ⟨rfl, hB1⟩
set_option maxRecDepth 100000 in
set_option maxHeartbeats 2000000 in
theorem maybe_6_8 {h0 h1 h2 h3 : Int} {h4 h5 : Bool} {h6 h7 : Int} {A B : Ad} (hok : Fr.Ok ⟨h0, h1, h2, h3, h4, h5, h6, h7, A, B⟩) (e0 : h0 = 20) (e1 : inB h1 20 65535 = true) (e2 : h4 = false) (e3 : inB h2 0 255 = true) (e4 : inB h6 0 255 = true) (e5 : inB h7 0 255 = true) (e6 : inB h3 0 65535 = false) (w : World) :
    Calls Try.prog 58 #[frC_8 ⟨h0, h1, h2, h3, h4, h5, h6, h7, A, B⟩] w fun e w' => e = .returned (.bool false) ∧ Below w.heap.size w w' := by
  have hA : A.b.length = 16 := hok.s
  have hB : B.b.length = 16 := hok.d
  have hb1 := Blk_8.new w 68 (frL_8 ⟨h0, h1, h2, h3, h4, h5, h6, h7, A, B⟩)
  have hB1 := (Below.refl w.heap.size w).alloc (Nat.le_refl _) (.cells (frL_8 ⟨h0, h1, h2, h3, h4, h5, h6, h7, A, B⟩).toArray 68)
  have hz1 : (w.alloc (.cells (frL_8 ⟨h0, h1, h2, h3, h4, h5, h6, h7, A, B⟩).toArray 68)).heap.size = w.heap.size + 1 := by simp
  have k0 := hb1.cell (i := 0) (v := .int .i64 h0) rfl
  have k1 := hb1.cell (i := 1) (v := .int .i64 h1) rfl
  have k2 := hb1.cell (i := 2) (v := .int .i64 h2) rfl
  have k3 := hb1.cell (i := 3) (v := .int .i64 h3) rfl
  have k4 := hb1.cell (i := 4) (v := .bool h4) rfl
  have k6 := hb1.cell (i := 6) (v := .int .i64 h6) rfl
  have k7 := hb1.cell (i := 7) (v := .int .i64 h7) rfl
  have kA := Lib.hid hb1.src
  have kB := Lib.hid (hb1.dst hok)
  unfold frC_8
  generalize frL_8 ⟨h0, h1, h2, h3, h4, h5, h6, h7, A, B⟩ = C at *
  subst e0
  have H1 := Lib.hid (fun W => e1 ▸ within_any_8 h1 20 65535 W)
  subst e2
  have H3 := Lib.hid (fun W => e3 ▸ within_any_8 h2 0 255 W)
  have H4 := Lib.hid (fun W => e4 ▸ within_any_8 h6 0 255 W)
  have H5 := Lib.hid (fun W => e5 ▸ within_any_8 h7 0 255 W)
  have H6 := Lib.hid (fun W => e6 ▸ within_any_8 h3 0 65535 W)
  clear hb1
  go_enter Try.func58, Try.ntmps58
  go_wp2_with fail
  refine (H1.out _).mono ?_
  rintro e w2 ⟨rfl, rfl⟩
  go_wp2_with fail
  refine (H3.out _).mono ?_
  rintro e w2 ⟨rfl, rfl⟩
  go_wp2_with fail
  refine (H4.out _).mono ?_
  rintro e w2 ⟨rfl, rfl⟩
  go_wp2_with fail
  refine (H5.out _).mono ?_
  rintro e w2 ⟨rfl, rfl⟩
  go_wp2_with fail
  refine (H6.out _).mono ?_
  rintro e w2 ⟨rfl, rfl⟩
  go_wp2_with fail
  go_ret
  exact ⟨rfl, hB1⟩
set_option maxRecDepth 100000 in
set_option maxHeartbeats 2000000 in
theorem maybe_7_8 {h0 h1 h2 h3 : Int} {h4 h5 : Bool} {h6 h7 : Int} {A B : Ad} (hok : Fr.Ok ⟨h0, h1, h2, h3, h4, h5, h6, h7, A, B⟩) (e0 : h0 = 20) (e1 : inB h1 20 65535 = true) (e2 : h4 = false) (e3 : inB h2 0 255 = true) (e4 : inB h6 0 255 = true) (e5 : inB h7 0 255 = true) (e6 : inB h3 0 65535 = true) (e7 : shortB A = false) (w : World) :
    Calls Try.prog 58 #[frC_8 ⟨h0, h1, h2, h3, h4, h5, h6, h7, A, B⟩] w fun e w' => e = .returned (.bool false) ∧ Below w.heap.size w w' := by
  have hA : A.b.length = 16 := hok.s
  have hB : B.b.length = 16 := hok.d
  have hb1 := Blk_8.new w 68 (frL_8 ⟨h0, h1, h2, h3, h4, h5, h6, h7, A, B⟩)
  have hB1 := (Below.refl w.heap.size w).alloc (Nat.le_refl _) (.cells (frL_8 ⟨h0, h1, h2, h3, h4, h5, h6, h7, A, B⟩).toArray 68)
  have hz1 : (w.alloc (.cells (frL_8 ⟨h0, h1, h2, h3, h4, h5, h6, h7, A, B⟩).toArray 68)).heap.size = w.heap.size + 1 := by simp
  have k0 := hb1.cell (i := 0) (v := .int .i64 h0) rfl
  have k1 := hb1.cell (i := 1) (v := .int .i64 h1) rfl
  have k2 := hb1.cell (i := 2) (v := .int .i64 h2) rfl
  have k3 := hb1.cell (i := 3) (v := .int .i64 h3) rfl
  have k4 := hb1.cell (i := 4) (v := .bool h4) rfl
  have k6 := hb1.cell (i := 6) (v := .int .i64 h6) rfl
  have k7 := hb1.cell (i := 7) (v := .int .i64 h7) rfl
  have kA := Lib.hid hb1.src
  have kB := Lib.hid (hb1.dst hok)
  unfold frC_8
  generalize frL_8 ⟨h0, h1, h2, h3, h4, h5, h6, h7, A, B⟩ = C at *
  subst e0
  have H1 := Lib.hid (fun W => e1 ▸ within_any_8 h1 20 65535 W)
  subst e2
  have H3 := Lib.hid (fun W => e3 ▸ within_any_8 h2 0 255 W)
  have H4 := Lib.hid (fun W => e4 ▸ within_any_8 h6 0 255 W)
  have H5 := Lib.hid (fun W => e5 ▸ within_any_8 h7 0 255 W)
  have H6 := Lib.hid (fun W => e6 ▸ within_any_8 h3 0 65535 W)
  have H7 := Lib.hid (fun W => e7 ▸ isfour_any hA W)
  clear hb1
  go_enter Try.func58, Try.ntmps58
  go_wp2_with fail
  refine (H1.out _).mono ?_
  rintro e w2 ⟨rfl, rfl⟩
  go_wp2_with fail
  refine (H3.out _).mono ?_
  rintro e w2 ⟨rfl, rfl⟩
  go_wp2_with fail
  refine (H4.out _).mono ?_
  rintro e w2 ⟨rfl, rfl⟩
  go_wp2_with fail
  refine (H5.out _).mono ?_
  rintro e w2 ⟨rfl, rfl⟩
  go_wp2_with fail
  refine (H6.out _).mono ?_
  rintro e w2 ⟨rfl, rfl⟩
  go_wp2_with ((with_reducible show wpList _ _ _ _ _ _); refine wpList_loadAw_8 _ rfl (by rfl) w.heap.size 8 (by rfl) A hA kA.out ?_)
  refine (H7.out _).mono ?_
  rintro e w2 ⟨rfl, hb2⟩
  have kB2 := Lib.hid (range_keep kB.out (by rw [hz1]; omega) hb2)
  have hB2 := Lib.hid (hB1.trans (hb2.mono hB1.size))
  clear hb2
  go_wp2_with fail
  go_ret
  exact ⟨rfl, hB2.out⟩
set_option maxRecDepth 100000 in
set_option maxHeartbeats 2000000 in
theorem maybe_8_8 {h0 h1 h2 h3 : Int} {h4 h5 : Bool} {h6 h7 : Int} {A B : Ad} (hok : Fr.Ok ⟨h0, h1, h2, h3, h4, h5, h6, h7, A, B⟩) (e0 : h0 = 20) (e1 : inB h1 20 65535 = true) (e2 : h4 = false) (e3 : inB h2 0 255 = true) (e4 : inB h6 0 255 = true) (e5 : inB h7 0 255 = true) (e6 : inB h3 0 65535 = true) (e7 : shortB A = true) (e8 : shortB B = false) (w : World) :
    Calls Try.prog 58 #[frC_8 ⟨h0, h1, h2, h3, h4, h5, h6, h7, A, B⟩] w fun e w' => e = .returned (.bool false) ∧ Below w.heap.size w w' := by
  have hA : A.b.length = 16 := hok.s
  have hB : B.b.length = 16 := hok.d
  have hb1 := Blk_8.new w 68 (frL_8 ⟨h0, h1, h2, h3, h4, h5, h6, h7, A, B⟩)
  have hB1 := (Below.refl w.heap.size w).alloc (Nat.le_refl _) (.cells (frL_8 ⟨h0, h1, h2, h3, h4, h5, h6, h7, A, B⟩).toArray 68)
  have hz1 : (w.alloc (.cells (frL_8 ⟨h0, h1, h2, h3, h4, h5, h6, h7, A, B⟩).toArray 68)).heap.size = w.heap.size + 1 := by simp
  have k0 := hb1.cell (i := 0) (v := .int .i64 h0) rfl
  have k1 := hb1.cell (i := 1) (v := .int .i64 h1) rfl
  have k2 := hb1.cell (i := 2) (v := .int .i64 h2) rfl
  have k3 := hb1.cell (i := 3) (v := .int .i64 h3) rfl
  have k4 := hb1.cell (i := 4) (v := .bool h4) rfl
  have k6 := hb1.cell (i := 6) (v := .int .i64 h6) rfl
  have k7 := hb1.cell (i := 7) (v := .int .i64 h7) rfl
  have kA := Lib.hid hb1.src
  have kB := Lib.hid (hb1.dst hok)
  unfold frC_8
  generalize frL_8 ⟨h0, h1, h2, h3, h4, h5, h6, h7, A, B⟩ = C at *
  subst e0
  have H1 := Lib.hid (fun W => e1 ▸ within_any_8 h1 20 65535 W)
  subst e2
  have H3 := Lib.hid (fun W => e3 ▸ within_any_8 h2 0 255 W)
  have H4 := Lib.hid (fun W => e4 ▸ within_any_8 h6 0 255 W)
  have H5 := Lib.hid (fun W => e5 ▸ within_any_8 h7 0 255 W)
  have H6 := Lib.hid (fun W => e6 ▸ within_any_8 h3 0 65535 W)
  have H7 := Lib.hid (fun W => e7 ▸ isfour_any hA W)
  have H8 := Lib.hid (fun W => e8 ▸ isfour_any hB W)
  clear hb1
  go_enter Try.func58, Try.ntmps58
  go_wp2_with fail
  refine (H1.out _).mono ?_
  rintro e w2 ⟨rfl, rfl⟩
  go_wp2_with fail
  refine (H3.out _).mono ?_
  rintro e w2 ⟨rfl, rfl⟩
  go_wp2_with fail
  refine (H4.out _).mono ?_
  rintro e w2 ⟨rfl, rfl⟩
  go_wp2_with fail
  refine (H5.out _).mono ?_
  rintro e w2 ⟨rfl, rfl⟩
  go_wp2_with fail
  refine (H6.out _).mono ?_
  rintro e w2 ⟨rfl, rfl⟩
  go_wp2_with ((with_reducible show wpList _ _ _ _ _ _); refine wpList_loadAw_8 _ rfl (by rfl) w.heap.size 8 (by rfl) A hA kA.out ?_)
  refine (H7.out _).mono ?_
  rintro e w2 ⟨rfl, hb2⟩
  have kB2 := Lib.hid (range_keep kB.out (by rw [hz1]; omega) hb2)
  have hB2 := Lib.hid (hB1.trans (hb2.mono hB1.size))
  clear hb2
  go_wp2_with ((with_reducible show wpList _ _ _ _ _ _); refine wpList_loadAw_8 _ rfl (by rfl) w.heap.size 25 (by rfl) B hB kB2.out ?_)
  refine (H8.out _).mono ?_
  rintro e w3 ⟨rfl, hb3⟩
  have hB3 := hB2.out.trans (hb3.mono hB2.out.size)
  go_wp2_with fail
  go_ret
  exact ⟨rfl, hB3⟩
set_option maxRecDepth 100000 in
set_option maxHeartbeats 2000000 in
theorem maybe_9_8 {h0 h1 h2 h3 : Int} {h4 h5 : Bool} {h6 h7 : Int} {A B : Ad} (hok : Fr.Ok ⟨h0, h1, h2, h3, h4, h5, h6, h7, A, B⟩) (e0 : h0 = 20) (e1 : inB h1 20 65535 = true) (e2 : h4 = false) (e3 : inB h2 0 255 = true) (e4 : inB h6 0 255 = true) (e5 : inB h7 0 255 = true) (e6 : inB h3 0 65535 = true) (e7 : shortB A = true) (e8 : shortB B = true) (w : World) :
    Calls Try.prog 58 #[frC_8 ⟨h0, h1, h2, h3, h4, h5, h6, h7, A, B⟩] w fun e w' => e = .returned (.bool true) ∧ Below w.heap.size w w' := by
  have hA : A.b.length = 16 := hok.s
  have hB : B.b.length = 16 := hok.d
  have hb1 := Blk_8.new w 68 (frL_8 ⟨h0, h1, h2, h3, h4, h5, h6, h7, A, B⟩)
  have hB1 := (Below.refl w.heap.size w).alloc (Nat.le_refl _) (.cells (frL_8 ⟨h0, h1, h2, h3, h4, h5, h6, h7, A, B⟩).toArray 68)
  have hz1 : (w.alloc (.cells (frL_8 ⟨h0, h1, h2, h3, h4, h5, h6, h7, A, B⟩).toArray 68)).heap.size = w.heap.size + 1 := by simp
  have k0 := hb1.cell (i := 0) (v := .int .i64 h0) rfl
  have k1 := hb1.cell (i := 1) (v := .int .i64 h1) rfl
  have k2 := hb1.cell (i := 2) (v := .int .i64 h2) rfl
  have k3 := hb1.cell (i := 3) (v := .int .i64 h3) rfl
  have k4 := hb1.cell (i := 4) (v := .bool h4) rfl
  have k6 := hb1.cell (i := 6) (v := .int .i64 h6) rfl
  have k7 := hb1.cell (i := 7) (v := .int .i64 h7) rfl
  have kA := Lib.hid hb1.src
  have kB := Lib.hid (hb1.dst hok)
  unfold frC_8
  generalize frL_8 ⟨h0, h1, h2, h3, h4, h5, h6, h7, A, B⟩ = C at *
  subst e0
  have H1 := Lib.hid (fun W => e1 ▸ within_any_8 h1 20 65535 W)
  subst e2
  have H3 := Lib.hid (fun W => e3 ▸ within_any_8 h2 0 255 W)
  have H4 := Lib.hid (fun W => e4 ▸ within_any_8 h6 0 255 W)
  have H5 := Lib.hid (fun W => e5 ▸ within_any_8 h7 0 255 W)
  have H6 := Lib.hid (fun W => e6 ▸ within_any_8 h3 0 65535 W)
  have H7 := Lib.hid (fun W => e7 ▸ isfour_any hA W)
  have H8 := Lib.hid (fun W => e8 ▸ isfour_any hB W)
  clear hb1
  go_enter Try.func58, Try.ntmps58
  go_wp2_with fail
  refine (H1.out _).mono ?_
  rintro e w2 ⟨rfl, rfl⟩
  go_wp2_with fail
  refine (H3.out _).mono ?_
  rintro e w2 ⟨rfl, rfl⟩
  go_wp2_with fail
  refine (H4.out _).mono ?_
  rintro e w2 ⟨rfl, rfl⟩
  go_wp2_with fail
  refine (H5.out _).mono ?_
  rintro e w2 ⟨rfl, rfl⟩
  go_wp2_with fail
  refine (H6.out _).mono ?_
  rintro e w2 ⟨rfl, rfl⟩
  go_wp2_with ((with_reducible show wpList _ _ _ _ _ _); refine wpList_loadAw_8 _ rfl (by rfl) w.heap.size 8 (by rfl) A hA kA.out ?_)
  refine (H7.out _).mono ?_
  rintro e w2 ⟨rfl, hb2⟩
  have kB2 := Lib.hid (range_keep kB.out (by rw [hz1]; omega) hb2)
  have hB2 := Lib.hid (hB1.trans (hb2.mono hB1.size))
  clear hb2
  go_wp2_with ((with_reducible show wpList _ _ _ _ _ _); refine wpList_loadAw_8 _ rfl (by rfl) w.heap.size 25 (by rfl) B hB kB2.out ?_)
  refine (H8.out _).mono ?_
  rintro e w3 ⟨rfl, hb3⟩
  have hB3 := hB2.out.trans (hb3.mono hB2.out.size)
  go_wp2_with fail
  go_ret
  exact ⟨rfl, hB3⟩
theorem maybe_any_8 {f : Fr} (hok : f.Ok) (w : World) : Calls Try.prog 58 #[frC_8 f] w fun e w' => e = .returned (.bool (rightB f)) ∧ Below w.heap.size w w' := by
  obtain ⟨h0, h1, h2, h3, h4, h5, h6, h7, A, B⟩ := f
  by_cases e0 : h0 = 20
  · cases e1 : inB h1 20 65535
    · rw [show rightB ⟨h0, h1, h2, h3, h4, h5, h6, h7, A, B⟩ = false by simp [rightB, e1]]; exact maybe_1_8 hok e0 e1 w
    · cases e2 : h4
      · cases e3 : inB h2 0 255
        · rw [show rightB ⟨h0, h1, h2, h3, false, h5, h6, h7, A, B⟩ = false by simp [rightB, e3]]; exact maybe_3_8 (e2 ▸ hok) e0 e1 rfl e3 w
        · cases e4 : inB h6 0 255
          · rw [show rightB ⟨h0, h1, h2, h3, false, h5, h6, h7, A, B⟩ = false by simp [rightB, e4]]; exact maybe_4_8 (e2 ▸ hok) e0 e1 rfl e3 e4 w
          · cases e5 : inB h7 0 255
            · rw [show rightB ⟨h0, h1, h2, h3, false, h5, h6, h7, A, B⟩ = false by simp [rightB, e5]]; exact maybe_5_8 (e2 ▸ hok) e0 e1 rfl e3 e4 e5 w
            · cases e6 : inB h3 0 65535
              · rw [show rightB ⟨h0, h1, h2, h3, false, h5, h6, h7, A, B⟩ = false by simp [rightB, e6]]; exact maybe_6_8 (e2 ▸ hok) e0 e1 rfl e3 e4 e5 e6 w
              · cases e7 : shortB A
                · rw [show rightB ⟨h0, h1, h2, h3, false, h5, h6, h7, A, B⟩ = false by simp [rightB, e7]]; exact maybe_7_8 (e2 ▸ hok) e0 e1 rfl e3 e4 e5 e6 e7 w
                · cases e8 : shortB B
                  · rw [show rightB ⟨h0, h1, h2, h3, false, h5, h6, h7, A, B⟩ = false by simp [rightB, e8]]; exact maybe_8_8 (e2 ▸ hok) e0 e1 rfl e3 e4 e5 e6 e7 e8 w
                  · rw [show rightB ⟨h0, h1, h2, h3, false, h5, h6, h7, A, B⟩ = true by simp [rightB, e0, e1, e3, e4, e5, e6, e7, e8]]; exact maybe_9_8 (e2 ▸ hok) e0 e1 rfl e3 e4 e5 e6 e7 e8 w
      · rw [show rightB ⟨h0, h1, h2, h3, true, h5, h6, h7, A, B⟩ = false by simp [rightB]]; exact maybe_2_8 (e2 ▸ hok) e0 e1 rfl w
  · rw [show rightB ⟨h0, h1, h2, h3, h4, h5, h6, h7, A, B⟩ = false by simp [rightB, e0]]; exact maybe_0_8 hok e0 w
end
section
open Go.RowKit Go.Lib
def z4 : List UInt8 := [0, 0, 0, 0]
theorem splice_s_8 (O T I W L P c : Nat) (s d e : List UInt8) (hs : s.length = 4) (he : e.length = 4) : splice ((hdr O T I W L P c e d).map v8) 12 (s.map v8) = (hdr O T I W L P c s d).map v8 := by
  match s, hs, e, he with
  | [_, _, _, _], _, [_, _, _, _], _ => rfl
theorem splice_d_8 (O T I W L P c : Nat) (s d e : List UInt8) (hs : s.length = 4) (hd : d.length = 4) (he : e.length = 4) : splice ((hdr O T I W L P c s e).map v8) 16 (d.map v8) = (hdr O T I W L P c s d).map v8 := by
  match s, hs, d, hd, e, he with
  | [_, _, _, _], _, [_, _, _, _], _, [_, _, _, _], _ => rfl
/-- A header that may be laid, and its bytes, by their numbers. -/
theorem put_hdr {f : Fr} (h : f.Ok) (hr : rightB f = true) : ∃ (T O I L P : Nat) (s d : List UInt8), f = ⟨20, (T : Int), (O : Int), (I : Int), false, f.keep, (L : Int), (P : Int), ⟨false, s ++ z12⟩, ⟨false, d ++ z12⟩⟩ ∧ s.length = 4 ∧ d.length = 4 ∧ T < 65536 ∧ O < 256 ∧ I < 65536 ∧ L < 256 ∧ P < 256 ∧
    ∀ W, putW f W = hdr O T I W L P (ckOf (hdr O T I W L P 0 s d)) s d := by
  obtain ⟨T, O, I, L, P, hf, t0, t1, o1, i1, l1, p1⟩ := (right_good hr).nats h
  have s4 := take4 h.s
  have d4 := take4 h.d
  generalize f.s.b.take 4 = s at *
  generalize f.d.b.take 4 = d at *
  generalize f.keep = k at *
  subst hf
  have ts : (s ++ z12).take 4 = s := by rw [List.take_append_of_le_length (by omega), List.take_of_length_le (by omega)]
  have td : (d ++ z12).take 4 = d := by rw [List.take_append_of_le_length (by omega), List.take_of_length_le (by omega)]
  refine ⟨T, O, I, L, P, s, d, rfl, s4, d4, t1, o1, i1, l1, p1, fun W => ?_⟩
  have e : ∀ c, hdrF ⟨20, (T : Int), (O : Int), (I : Int), false, k, (L : Int), (P : Int), ⟨false, s ++ z12⟩, ⟨false, d ++ z12⟩⟩ W c = hdr O T I W L P c s d := fun c => by
    unfold hdrF
    simp only [Int.toNat_natCast, ts, td]
  unfold putW
  rw [e, e]
/-- A byte stored into a row of bytes: a law for the walk; the world behind it is a letter. -/
theorem wpList_store8_8 {w : World} {ops : Array Oper} {rest : List Oper} {op : Oper} {a : Act} {Q : Exit → Act → World → Prop} (hgd : op.guard = none) (x y : Operand) (ho : op.op = .store 5 x y)
    (g i : Nat) (hx : a.eval x = .pointer (some ⟨g, i, none⟩)) (b : UInt8) (n : Int) (hn : n = (b.toNat : Int)) (hy : a.eval y = .int .u8 n) (xs : List UInt8) (hrow : Row8 w g xs) (hi : i < xs.length)
    (h : ∀ w', Row8 w' g (xs.set i b) → Below g w w' → wpList Try.prog ops Q rest (a.put op.dst undef) w') : wpList Try.prog ops Q (op :: rest) a w := by
  subst hn
  refine wpList_plain hgd fun K hK => ?_
  have hc := hrow.cell (i := i) (List.getElem?_eq_getElem hi)
  have hf := hrow.frozen i
  have hk := h _ (hrow.set i b) ((Below.refl g w).setCell (p := ⟨g, i, none⟩) (Nat.le_refl _) _)
  unfold v8 at hc
  unfold Oper.wp execOp
  simp only [ho, hx, hy]
  clear h
  go_simp
  exact hK _ _ hk
set_option maxRecDepth 100000 in
set_option maxHeartbeats 1000000 in
theorem put_no_8 {f : Fr} (hok : f.Ok) (hr : rightB f = false) (w : World) :
    Calls Try.prog 40 #[frC_8 f] w fun e w' => e = .returned (.tuple #[.slice none 0 0, .int .i64 1]) ∧ Below w.heap.size w w' := by
  have hb1 := Blk_8.new w 68 (frL_8 f)
  have hB1 := (Below.refl w.heap.size w).alloc (Nat.le_refl _) (.cells (frL_8 f).toArray 68)
  have HM := Lib.hid (fun W => hr ▸ maybe_any_8 hok W)
  have HB := Lib.hid hb1
  have HB1 := Lib.hid hB1
  have HOK := Lib.hid hok
  clear hb1 hB1 hr hok
  go_enter Try.func40, Try.ntmps40
  unfold frC_8
  go_wp2_with ((with_reducible show wpList _ _ _ _ _ _); refine wpList_loadF_8 rfl _ rfl w.heap.size (by rfl) f HOK.out HB.out ?_)
  refine (HM.out _).mono ?_
  rintro e w2 ⟨rfl, hb2⟩
  go_wp2_with fail
  go_ret2
  exact ⟨rfl, HB1.out.trans (hb2.mono HB1.out.size)⟩
set_option maxRecDepth 100000 in
set_option maxHeartbeats 4000000 in
theorem put_yes_8 {f : Fr} (hok : f.Ok) (hr : rightB f = true) (w : World) :
    Calls Try.prog 40 #[frC_8 f] w fun e w' => ∃ v, e = .returned (.tuple #[v, .int .i64 0]) ∧ Own8 w' w.heap.size v (putF f) ∧ Below w.heap.size w w' := by
  obtain ⟨T, O, I, L, P, s, d, hf, s4, d4, tl, ol, il, ll, pl, hput⟩ := put_hdr hok hr
  have HM := Lib.hid (fun W => hr ▸ maybe_any_8 hok W)
  have hb1 := Blk_8.new w 68 (frL_8 f)
  have hB1 := (Below.refl w.heap.size w).alloc (Nat.le_refl _) (.cells (frL_8 f).toArray 68)
  have HB := Lib.hid hb1
  have HB1 := Lib.hid hB1
  have HOK := Lib.hid hok
  have HS4 := Lib.hid s4
  have HD4 := Lib.hid d4
  have HPUT := Lib.hid hput
  have hsrc : ∀ W, Blk_8 W 68 w.heap.size (frL_8 f) → ∀ j v, (s.map v8)[j]? = some v → W.cell? ⟨w.heap.size, 9 + j, none⟩ = some v := fun W hW j v hv => by
    refine hW.srcB j v ?_
    rw [hf]
    show ((s ++ z12).map v8)[j]? = some v
    rw [List.map_append, List.getElem?_append_left (List.getElem?_eq_some_iff.1 hv).1]; exact hv
  have hdst : ∀ W, Blk_8 W 68 w.heap.size (frL_8 f) → ∀ j v, (d.map v8)[j]? = some v → W.cell? ⟨w.heap.size, 26 + j, none⟩ = some v := fun W hW j v hv => by
    refine hW.dstB hok j v ?_
    rw [hf]
    show ((d ++ z12).map v8)[j]? = some v
    rw [List.map_append, List.getElem?_append_left (List.getElem?_eq_some_iff.1 hv).1]; exact hv
  have HSRC := Lib.hid hsrc
  have HDST := Lib.hid hdst
  obtain ⟨ke, hke⟩ : ∃ ke, f.keep = ke := ⟨_, rfl⟩
  have HFL := Lib.hid (show flagW f = if ke then 16384 else 0 by unfold flagW; rw [hke])
  rw [hke] at hf
  have hcells : frL_8 f = [.int .i64 20, .int .i64 (T : Int), .int .i64 (O : Int), .int .i64 (I : Int), .bool false, .bool ke, .int .i64 (L : Int), .int .i64 (P : Int)] ++ (adL f.s ++ adL f.d) := by
    unfold frL_8 frN_8
    rw [hf]
  have HC := Lib.hid hcells
  have u1 : IntKind.u8.wrap (O : Int) = (O : Int) := by rw [IntKind.wrap_u8]; omega
  have u6 : IntKind.u8.wrap (L : Int) = (L : Int) := by rw [IntKind.wrap_u8]; omega
  have u7 : IntKind.u8.wrap (P : Int) = (P : Int) := by rw [IntKind.wrap_u8]; omega
  have HU1 := Lib.hid (show (O : Int) = ((UInt8.ofNat O).toNat : Int) by rw [u8nat ol])
  have HU8 := Lib.hid (show (L : Int) = ((UInt8.ofNat L).toNat : Int) by rw [u8nat ll])
  have HU9 := Lib.hid (show (P : Int) = ((UInt8.ofNat P).toNat : Int) by rw [u8nat pl])
  clear hb1 hB1 hr hok s4 d4 hput hsrc hdst hke hcells hf
  go_enter Try.func40, Try.ntmps40
  unfold frC_8
  go_wp2_with ((with_reducible show wpList _ _ _ _ _ _); refine wpList_loadF_8 rfl _ rfl w.heap.size (by rfl) f HOK.out HB.out ?_)
  refine (HM.out _).mono ?_
  rintro e w2 ⟨rfl, hb2⟩
  have hmk : ∀ W : World, (Instr.makeSlice 22 (.int .i64 20) (.int .i64 20)).run Try.prog W = .ok (.slice (some ⟨W.heap.size, 0, none⟩) 20 20) (W.alloc (.cells (madeCells #[.int .u8 0] 20) 5)) := fun W => run_make8 20 20 (Nat.le_refl _) (by omega) W
  have z2 : w.heap.size < w2.heap.size := by have := hb2.size; simp at this; omega
  have HQ2 := HB.out.below (by simp) hb2
  have HB2 := HB1.out.trans (hb2.mono HB1.out.size)
  have hrow : Row8 (w2.alloc (.cells (madeCells #[.int .u8 0] 20) 5)) w2.heap.size (List.replicate 20 0) := Row8.made w2 20
  have HQ3 := HQ2.alloc (.cells (madeCells #[.int .u8 0] 20) 5)
  have HB3 := HB2.alloc HB2.size (.cells (madeCells #[.int .u8 0] 20) 5)
  obtain ⟨w3, hw3⟩ : ∃ w3, w2.alloc (.cells (madeCells #[.int .u8 0] 20) 5) = w3 := ⟨_, rfl⟩
  obtain ⟨g, hg⟩ : ∃ g, w2.heap.size = g := ⟨_, rfl⟩
  have hmk2 := hmk w2
  rw [hw3, hg] at hmk2
  rw [hw3, hg] at hrow
  rw [hw3] at HQ3 HB3
  rw [hg] at z2
  have HGP := Lib.hid z2
  have HGW := Lib.hid (Nat.le_of_lt z2)
  have HR3 := Lib.hid hrow
  have HQ3 := Lib.hid HQ3
  have HB3 := Lib.hid HB3
  have HFIELD := Lib.hid (fun (W : World) (hW : Blk_8 W 68 w.heap.size (frL_8 f)) => show W.cell? ⟨w.heap.size, 2, none⟩ = some (.int .i64 (O : Int)) ∧ W.cell? ⟨w.heap.size, 1, none⟩ = some (.int .i64 (T : Int)) ∧ W.cell? ⟨w.heap.size, 3, none⟩ = some (.int .i64 (I : Int)) ∧ W.cell? ⟨w.heap.size, 5, none⟩ = some (.bool ke) ∧ W.cell? ⟨w.heap.size, 6, none⟩ = some (.int .i64 (L : Int)) ∧ W.cell? ⟨w.heap.size, 7, none⟩ = some (.int .i64 (P : Int)) from
    ⟨hW.cell (by rw [HC.out]; rfl), hW.cell (by rw [HC.out]; rfl), hW.cell (by rw [HC.out]; rfl), hW.cell (by rw [HC.out]; rfl), hW.cell (by rw [HC.out]; rfl), hW.cell (by rw [HC.out]; rfl)⟩)
  clear hw3 hmk hb2 HQ2 HB2 hrow hg z2 HM HB HB1
  have c69 : (69 : Int) = ((69 : UInt8).toNat : Int) := rfl
  have HC69 := Lib.hid c69
  clear c69
  go_wp2_with (first
    | ((with_reducible show wpList _ _ _ _ _ _); refine wpList_store8_8 rfl (.tmp 10) _ rfl g 0 (by rfl) (69 : UInt8) 69 HC69.out (by rfl) _ HR3.out (by simp) ?_; intro w4 hR4 hB4; have hR4' : Row8 w4 g (hdr 0 0 0 0 0 0 0 z4 z4) := hR4; have HR4 := Lib.hid hR4'; have HQ4 := Lib.hid (HQ3.out.below HGP.out hB4); have HB4 := Lib.hid (HB3.out.trans (hB4.mono HGW.out)); obtain ⟨j2, _, _, _, _, _⟩ := HFIELD.out w4 HQ4.out; clear hR4 hR4' hB4)
    | ((with_reducible show wpList _ _ _ _ _ _); refine wpList_store8_8 rfl (.tmp 15) (.tmp 14) rfl g 1 (by rfl) (UInt8.ofNat O) (O : Int) HU1.out (by rfl) _ HR4.out (by decide) ?_; intro w5 hR5 hB5; have hR5' : Row8 w5 g (hdr O 0 0 0 0 0 0 z4 z4) := hR5; have HR5 := Lib.hid hR5'; have HQ5 := Lib.hid (HQ4.out.below HGP.out hB5); have HB5 := Lib.hid (HB4.out.trans (hB5.mono HGW.out)); obtain ⟨_, j1, _, _, _, _⟩ := HFIELD.out w5 HQ5.out; clear hR5 hR5' hB5))
  refine (lay_any_8 T tl HR5.out 20 2 rfl (by omega) _ _ rfl rfl).mono ?_
  rintro e w6 ⟨rfl, hR6, hB6⟩
  have hR6' : Row8 w6 g (hdr O T 0 0 0 0 0 z4 z4) := hR6
  have HR6 := Lib.hid hR6'
  have HQ6 := Lib.hid (HQ5.out.below HGP.out hB6)
  have HB6 := Lib.hid (HB5.out.trans (hB6.mono HGW.out))
  obtain ⟨_, _, j3, _, _, _⟩ := HFIELD.out w6 HQ6.out
  clear hR6 hR6' hB6 j1 j2
  go_wp2_with fail
  refine (lay_any_8 I il HR6.out 20 4 rfl (by omega) _ _ rfl rfl).mono ?_
  rintro e w7 ⟨rfl, hR7, hB7⟩
  have hR7' : Row8 w7 g (hdr O T I 0 0 0 0 z4 z4) := hR7
  have HR7 := Lib.hid hR7'
  have HQ7 := Lib.hid (HQ6.out.below HGP.out hB7)
  have HB7 := Lib.hid (HB6.out.trans (hB7.mono HGW.out))
  obtain ⟨_, _, _, j5, _, _⟩ := HFIELD.out w7 HQ7.out
  clear hR7 hR7' hB7 j3
  cases ke with
  | true =>
    have HFL2 : Hid (flagW f = 16384) := Lib.hid (by rw [HFL.out]; rfl)
    go_wp2_with fail
    refine (lay_any_8 16384 (by omega) HR7.out 20 6 rfl (by omega) _ _ rfl rfl).mono ?_
    rintro e w8 ⟨rfl, hR8, hB8⟩
    have hR8' : Row8 w8 g (hdr O T I 16384 0 0 0 z4 z4) := hR8
    have HR8 := Lib.hid hR8'
    have HQ8 := Lib.hid (HQ7.out.below HGP.out hB8)
    have HB8 := Lib.hid (HB7.out.trans (hB8.mono HGW.out))
    clear hR8 hR8' hB8 j5
    obtain ⟨_, _, _, _, j6, j7⟩ := HFIELD.out w8 HQ8.out
    have hl0 : (hdr O T I 16384 0 0 0 z4 z4).length = 20 := rfl
    have hl1 : (hdr O T I 16384 L 0 0 z4 z4).length = 20 := rfl
    have hl2 : (hdr O T I 16384 L P 0 z4 z4).length = 20 := rfl
    have hl3 : (hdr O T I 16384 L P 0 s z4).length = 20 := hdr_len _ _ _ _ _ _ _ _ _ HS4.out rfl
    have hl4 : (hdr O T I 16384 L P 0 s d).length = 20 := hdr_len _ _ _ _ _ _ _ _ _ HS4.out HD4.out
    have HL3 := Lib.hid hl3
    have HL4 := Lib.hid hl4
    clear hl3 hl4
    go_wp2_with (first
      | ((with_reducible show wpList _ _ _ _ _ _); refine wpList_store8_8 rfl (.tmp 36) (.tmp 32) rfl g 8 (by rfl) (UInt8.ofNat L) (L : Int) HU8.out (by rfl) _ HR8.out (by rw [hl0]; decide) ?_; intro wa hRa hBa; have hRa' : Row8 wa g (hdr O T I 16384 L 0 0 z4 z4) := hRa; have HRa := Lib.hid hRa'; have HBa := Lib.hid hBa; clear hRa hBa hRa')
      | ((with_reducible show wpList _ _ _ _ _ _); refine wpList_store8_8 rfl (.tmp 37) (.tmp 35) rfl g 9 (by rfl) (UInt8.ofNat P) (P : Int) HU9.out (by rfl) _ HRa.out (by rw [hl1]; decide) ?_; intro wb hRb hBb; have hRb' : Row8 wb g (hdr O T I 16384 L P 0 z4 z4) := hRb; have HRb := Lib.hid hRb'; have HQb := Lib.hid ((HQ8.out.below HGP.out HBa.out).below HGP.out hBb); have HBb := Lib.hid (HB8.out.trans ((HBa.out.trans hBb).mono HGW.out)); clear hRb hBb hRb' HRa HBa))
    go_region_law (refine step_copy_splice rfl (.tmp 39) (.tmp 42) 22 22 rfl 5 Try.underlying22 size8 (some ⟨g, 12, none⟩) (some ⟨w.heap.size, 9, none⟩) 8 8 4 16 (by simp [Act.eval, Act.put]) (by simp [Act.eval, Act.put]) g 12 ((hdr O T I 16384 L P 0 z4 z4).map v8) 5 HRb.out (s.map v8) (by rw [List.length_map, HS4.out]; rfl) (fun h0 => ⟨rfl, ⟨w.heap.size, 9, none⟩, rfl, fun j v hv => by rw [add_plain]; exact HSRC.out wb HQb.out j v hv⟩) (by rw [List.length_map, List.length_map, HS4.out, hl2]; decide) (oneCell8 _) g wb (Below.refl _ _).drew (Nat.le_refl _) ?_; intro wc hRc hBc; rw [List.length_map, HS4.out])
    rw [splice_s_8 _ _ _ _ _ _ _ _ _ _ HS4.out rfl] at hRc
    have HRc := Lib.hid hRc.out
    have HQc := Lib.hid (HQb.out.below HGP.out hBc)
    have HBc := Lib.hid (HBb.out.trans (hBc.mono HGW.out))
    clear hRc hBc HRb HQb HBb
    go_wp2_with fail
    go_region_law (refine step_copy_splice rfl (.tmp 45) (.tmp 48) 22 22 rfl 5 Try.underlying22 size8 (some ⟨g, 16, none⟩) (some ⟨w.heap.size, 26, none⟩) 4 4 4 16 (by simp [Act.eval, Act.put]) (by simp [Act.eval, Act.put]) g 16 ((hdr O T I 16384 L P 0 s z4).map v8) 5 HRc.out (d.map v8) (by rw [List.length_map, HD4.out]; rfl) (fun h0 => ⟨rfl, ⟨w.heap.size, 26, none⟩, rfl, fun j v hv => by rw [add_plain]; exact HDST.out wc HQc.out j v hv⟩) (by rw [List.length_map, List.length_map, HD4.out, HL3.out]; decide) (oneCell8 _) g wc (Below.refl _ _).drew (Nat.le_refl _) ?_; intro wd hRd hBd; rw [List.length_map, HD4.out])
    rw [splice_d_8 _ _ _ _ _ _ _ _ _ _ HS4.out HD4.out rfl] at hRd
    have HRd : Hid (Row8 wd g (hdr O T I 16384 L P 0 s d)) := Lib.hid hRd.out
    have HBd := Lib.hid (HBc.out.trans (hBd.mono HGW.out))
    clear hRd hBd HRc HQc HBc
    have hrd : Rd wd wd.heap.size (some ⟨g, 0, none⟩) 20 (hdr O T I 16384 L P 0 s d) := by have := HRd.out.rd HRd.out.lt; rwa [HL4.out] at this
    have hck := ckOf_le (hdr O T I 16384 L P 0 s d)
    have HFIN := Lib.hid (HPUT.out 16384)
    obtain ⟨c, hc⟩ : ∃ c, ckOf (hdr O T I 16384 L P 0 s d) = c := ⟨_, rfl⟩
    rw [hc] at HFIN hck
    have HSUM := Lib.hid (sum_row wd _ _ (CellsAt.one hrd (c := 20) (by omega) (small_max (by omega))) 1 1 rfl (by omega) (by simp [HL4.out]) c (by simpa using hc) 0)
    have HRe := Lib.hid (HRd.out.alloc (.cells #[.slice (some ⟨g, 0, none⟩) 20 20] 22))
    have HBe := Lib.hid (HBd.out.alloc HBd.out.size (.cells #[.slice (some ⟨g, 0, none⟩) 20 20] 22))
    have wc' : IntKind.i64.wrap (c : Int) = (c : Int) := by rw [IntKind.wrap_i64]; omega
    clear hrd hc HRd HBd
    go_wp2_with fail
    refine HSUM.out.mono ?_
    rintro e we ⟨rfl, rfl⟩
    go_wp2_with fail
    refine (lay_any_8 c (by omega) (show Row8 ((wd.alloc (.cells #[.slice (some ⟨g, 0, none⟩) 20 20] 22)).drewN 0) g _ from HRe.out) 20 10 HL4.out (by omega) _ _ rfl rfl).mono ?_
    rintro e wf ⟨rfl, hRf, hBf⟩
    have hRf' : Row8 wf g (hdr O T I 16384 L P c s d) := hRf
    have HBf := Lib.hid ((below_drewN HBe.out 0).trans (hBf.mono HGW.out))
    have hlc : (hdr O T I 16384 L P c s d).length = 20 := hdr_len _ _ _ _ _ _ _ _ _ HS4.out HD4.out
    have how := hRf'.own (base := w.heap.size) HGW.out (Nat.le_refl _) (by rw [hlc]; simp [maxLen])
    rw [List.take_length, hlc] at how
    clear hRf hRf' hBf
    go_wp2_with fail
    go_ret2
    exact ⟨_, rfl, by unfold putF; rw [HFL2.out, HFIN.out]; exact how, HBf.out⟩
  | false =>
    have HFL2 : Hid (flagW f = 0) := Lib.hid (by rw [HFL.out]; rfl)
    obtain ⟨_, _, _, _, j6, j7⟩ := HFIELD.out w7 HQ7.out
    have hl0 : (hdr O T I 0 0 0 0 z4 z4).length = 20 := rfl
    have hl1 : (hdr O T I 0 L 0 0 z4 z4).length = 20 := rfl
    have hl2 : (hdr O T I 0 L P 0 z4 z4).length = 20 := rfl
    have hl3 : (hdr O T I 0 L P 0 s z4).length = 20 := hdr_len _ _ _ _ _ _ _ _ _ HS4.out rfl
    have hl4 : (hdr O T I 0 L P 0 s d).length = 20 := hdr_len _ _ _ _ _ _ _ _ _ HS4.out HD4.out
    have HL3 := Lib.hid hl3
    have HL4 := Lib.hid hl4
    clear hl3 hl4
    go_wp2_with (first
      | ((with_reducible show wpList _ _ _ _ _ _); refine wpList_store8_8 rfl (.tmp 36) (.tmp 32) rfl g 8 (by rfl) (UInt8.ofNat L) (L : Int) HU8.out (by rfl) _ HR7.out (by rw [hl0]; decide) ?_; intro wa hRa hBa; have hRa' : Row8 wa g (hdr O T I 0 L 0 0 z4 z4) := hRa; have HRa := Lib.hid hRa'; have HBa := Lib.hid hBa; clear hRa hBa hRa')
      | ((with_reducible show wpList _ _ _ _ _ _); refine wpList_store8_8 rfl (.tmp 37) (.tmp 35) rfl g 9 (by rfl) (UInt8.ofNat P) (P : Int) HU9.out (by rfl) _ HRa.out (by rw [hl1]; decide) ?_; intro wb hRb hBb; have hRb' : Row8 wb g (hdr O T I 0 L P 0 z4 z4) := hRb; have HRb := Lib.hid hRb'; have HQb := Lib.hid ((HQ7.out.below HGP.out HBa.out).below HGP.out hBb); have HBb := Lib.hid (HB7.out.trans ((HBa.out.trans hBb).mono HGW.out)); clear hRb hBb hRb' HRa HBa))
    go_region_law (refine step_copy_splice rfl (.tmp 39) (.tmp 42) 22 22 rfl 5 Try.underlying22 size8 (some ⟨g, 12, none⟩) (some ⟨w.heap.size, 9, none⟩) 8 8 4 16 (by simp [Act.eval, Act.put]) (by simp [Act.eval, Act.put]) g 12 ((hdr O T I 0 L P 0 z4 z4).map v8) 5 HRb.out (s.map v8) (by rw [List.length_map, HS4.out]; rfl) (fun h0 => ⟨rfl, ⟨w.heap.size, 9, none⟩, rfl, fun j v hv => by rw [add_plain]; exact HSRC.out wb HQb.out j v hv⟩) (by rw [List.length_map, List.length_map, HS4.out, hl2]; decide) (oneCell8 _) g wb (Below.refl _ _).drew (Nat.le_refl _) ?_; intro wc hRc hBc; rw [List.length_map, HS4.out])
    rw [splice_s_8 _ _ _ _ _ _ _ _ _ _ HS4.out rfl] at hRc
    have HRc := Lib.hid hRc.out
    have HQc := Lib.hid (HQb.out.below HGP.out hBc)
    have HBc := Lib.hid (HBb.out.trans (hBc.mono HGW.out))
    clear hRc hBc HRb HQb HBb
    go_wp2_with fail
    go_region_law (refine step_copy_splice rfl (.tmp 45) (.tmp 48) 22 22 rfl 5 Try.underlying22 size8 (some ⟨g, 16, none⟩) (some ⟨w.heap.size, 26, none⟩) 4 4 4 16 (by simp [Act.eval, Act.put]) (by simp [Act.eval, Act.put]) g 16 ((hdr O T I 0 L P 0 s z4).map v8) 5 HRc.out (d.map v8) (by rw [List.length_map, HD4.out]; rfl) (fun h0 => ⟨rfl, ⟨w.heap.size, 26, none⟩, rfl, fun j v hv => by rw [add_plain]; exact HDST.out wc HQc.out j v hv⟩) (by rw [List.length_map, List.length_map, HD4.out, HL3.out]; decide) (oneCell8 _) g wc (Below.refl _ _).drew (Nat.le_refl _) ?_; intro wd hRd hBd; rw [List.length_map, HD4.out])
    rw [splice_d_8 _ _ _ _ _ _ _ _ _ _ HS4.out HD4.out rfl] at hRd
    have HRd : Hid (Row8 wd g (hdr O T I 0 L P 0 s d)) := Lib.hid hRd.out
    have HBd := Lib.hid (HBc.out.trans (hBd.mono HGW.out))
    clear hRd hBd HRc HQc HBc
    have hrd : Rd wd wd.heap.size (some ⟨g, 0, none⟩) 20 (hdr O T I 0 L P 0 s d) := by have := HRd.out.rd HRd.out.lt; rwa [HL4.out] at this
    have hck := ckOf_le (hdr O T I 0 L P 0 s d)
    have HFIN := Lib.hid (HPUT.out 0)
    obtain ⟨c, hc⟩ : ∃ c, ckOf (hdr O T I 0 L P 0 s d) = c := ⟨_, rfl⟩
    rw [hc] at HFIN hck
    have HSUM := Lib.hid (sum_row wd _ _ (CellsAt.one hrd (c := 20) (by omega) (small_max (by omega))) 1 1 rfl (by omega) (by simp [HL4.out]) c (by simpa using hc) 0)
    have HRe := Lib.hid (HRd.out.alloc (.cells #[.slice (some ⟨g, 0, none⟩) 20 20] 22))
    have HBe := Lib.hid (HBd.out.alloc HBd.out.size (.cells #[.slice (some ⟨g, 0, none⟩) 20 20] 22))
    have wc' : IntKind.i64.wrap (c : Int) = (c : Int) := by rw [IntKind.wrap_i64]; omega
    clear hrd hc HRd HBd
    go_wp2_with fail
    refine HSUM.out.mono ?_
    rintro e we ⟨rfl, rfl⟩
    go_wp2_with fail
    refine (lay_any_8 c (by omega) (show Row8 ((wd.alloc (.cells #[.slice (some ⟨g, 0, none⟩) 20 20] 22)).drewN 0) g _ from HRe.out) 20 10 HL4.out (by omega) _ _ rfl rfl).mono ?_
    rintro e wf ⟨rfl, hRf, hBf⟩
    have hRf' : Row8 wf g (hdr O T I 0 L P c s d) := hRf
    have HBf := Lib.hid ((below_drewN HBe.out 0).trans (hBf.mono HGW.out))
    have hlc : (hdr O T I 0 L P c s d).length = 20 := hdr_len _ _ _ _ _ _ _ _ _ HS4.out HD4.out
    have how := hRf'.own (base := w.heap.size) HGW.out (Nat.le_refl _) (by rw [hlc]; simp [maxLen])
    rw [List.take_length, hlc] at how
    clear hRf hRf' hBf
    go_wp2_with fail
    go_ret2
    exact ⟨_, rfl, by unfold putF; rw [HFL2.out, HFIN.out]; exact how, HBf.out⟩
end
section
open Go.RowKit Go.Lib
/-- The cells of block g, from its head on, are just the bytes cur, and may be written. -/
def Held_8 (w : World) (g : Nat) (cur : List UInt8) : Prop := ∀ j y, cur[j]? = some y → w.cell? ⟨g, j, none⟩ = some (v8 y) ∧ w.frozen? ⟨g, j, none⟩ = false
theorem Held_8.set {w : World} {g : Nat} {cur : List UInt8} (h : Held_8 w g cur) {k : Nat} {x : UInt8} (hx : cur[k]? = some x) (y : UInt8) : Held_8 (w.setCell ⟨g, k, none⟩ (.int .u8 (y.toNat : Int))) g (cur.set k y) := by
  intro j z hz
  rw [World.frozen?_setCell]
  have hk : k < cur.length := (List.getElem?_eq_some_iff.1 hx).1
  rw [List.getElem?_set] at hz
  by_cases e : k = j
  · subst e
    simp [hk] at hz
    subst hz
    exact ⟨World.cell?_setCell_same _ _ _ (h k x hx).1, (h k x hx).2⟩
  · rw [if_neg e] at hz
    rw [World.cell?_setCell_other _ _ _ _ (by intro e'; cases e'; exact e rfl)]
    exact h j z hz
theorem Held_8.rd {w : World} {g : Nat} {cur : List UInt8} (h : Held_8 w g cur) {B n : Nat} (hg : g < B) (hn : cur.length = n) : Rd w B (some ⟨g, 0, none⟩) n cur :=
  ⟨hn, fun _ => ⟨g, 0, rfl, hg, fun j x hx => by rw [Nat.zero_add]; exact (h j x hx).1⟩⟩
theorem own_form_8 {w : World} {base : Nat} {v : Value} {xs : List UInt8} {n : Nat} (h : Own8 w base v xs) (hn : xs.length = n) (h0 : 0 < n) :
    ∃ g c, v = .slice (some ⟨g, 0, none⟩) n c ∧ n ≤ c ∧ c ≤ maxLen ∧ base ≤ g ∧ g < w.heap.size ∧ Held_8 w g xs := by
  subst hn
  obtain ⟨A2, c2, rfl, hmc2, hcm2, hr2, hgg⟩ := h.rd
  obtain ⟨g, rfl, hbg⟩ := hgg h0
  obtain ⟨b, off, e, hglt⟩ := hr2.addr h0
  cases e
  refine ⟨g, c2, rfl, hmc2, hcm2, hbg, hglt, fun j y hy => ?_⟩
  obtain ⟨b, off, e, _, hc⟩ := hr2.2 h0
  cases e
  have := hc j y hy
  rw [Nat.zero_add] at this
  exact ⟨this, h.frozen j⟩
theorem Held_8.below {w w' : World} {g B : Nat} {cur : List UInt8} (h : Held_8 w g cur) (hB : g < B) (hb : Below B w w') : Held_8 w' g cur := fun j y hy => by
  obtain ⟨h1, h2⟩ := h j y hy
  refine ⟨(hb.cell (p := ⟨g, j, none⟩) hB).trans h1, ?_⟩
  have := hb.block g hB
  unfold World.frozen? at h2 ⊢
  simpa [this] using h2
theorem Held_8.lt {w : World} {g : Nat} {cur : List UInt8} (h : Held_8 w g cur) (h0 : 0 < cur.length) : g < w.heap.size := by
  obtain ⟨h1, _⟩ := h 0 _ (List.getElem?_eq_getElem h0)
  exact World.block_lt_of_cell? w _ h1
/-- A byte stored into a block whose head is known: a law for the walk; the world behind it is a letter. -/
theorem wpList_storeH_8 {w : World} {ops : Array Oper} {rest : List Oper} {op : Oper} {a : Act} {Q : Exit → Act → World → Prop} (hgd : op.guard = none) (x y : Operand) (ho : op.op = .store 5 x y)
    (g i : Nat) (hx : a.eval x = .pointer (some ⟨g, i, none⟩)) (b : UInt8) (n : Int) (hn : n = (b.toNat : Int)) (hy : a.eval y = .int .u8 n) (xs : List UInt8) (hheld : Held_8 w g xs) (hi : i < xs.length)
    (h : ∀ w', Held_8 w' g (xs.set i b) → Below g w w' → wpList Try.prog ops Q rest (a.put op.dst undef) w') : wpList Try.prog ops Q (op :: rest) a w := by
  subst hn
  refine wpList_plain hgd fun K hK => ?_
  obtain ⟨hc, hf⟩ := hheld i _ (List.getElem?_eq_getElem hi)
  have hk := h _ (hheld.set (List.getElem?_eq_getElem hi) b) ((Below.refl g w).setCell (p := ⟨g, i, none⟩) (Nat.le_refl _) _)
  unfold v8 at hc
  unfold Oper.wp execOp
  simp only [ho, hx, hy]
  clear h
  go_simp
  exact hK _ _ hk
theorem hdr_parts (O T I W L P c : Nat) (s d : List UInt8) : (hdr O T I W L P c [] [] ++ s) ++ d = hdr O T I W L P c s d := by simp [hdr]
theorem hdr_cells_8 {O T I L P : Nat} (tl : T < 65536) (ol : O < 256) (il : I < 65536) (ll : L < 256) (pl : P < 256) : ((hdr O T I 0 L P 0 [] []).map v8).toArray = #[.int .u8 69, .int .u8 (O : Int), .int .u8 ((T : Int) / 256), .int .u8 ((T : Int) % 256), .int .u8 ((I : Int) / 256), .int .u8 ((I : Int) % 256), .int .u8 0, .int .u8 0, .int .u8 (L : Int), .int .u8 (P : Int), .int .u8 0, .int .u8 0] := by
  show ([69, UInt8.ofNat O, UInt8.ofNat (T / 256), UInt8.ofNat (T % 256), UInt8.ofNat (I / 256), UInt8.ofNat (I % 256), 0, 0, UInt8.ofNat L, UInt8.ofNat P, 0, 0].map v8).toArray = _
  simp only [List.map_cons, List.map_nil]
  rw [v8_of O ol, v8_of (T / 256) (by omega), v8_of (T % 256) (by omega), v8_of (I / 256) (by omega), v8_of (I % 256) (by omega), v8_of L ll, v8_of P pl]
  rfl
set_option maxRecDepth 100000 in
set_option maxHeartbeats 4000000 in
theorem rput_any_8 {f : Fr} (hok : f.Ok) (hr : rightB f = true) (w : World) :
    Calls Try.prog 28 #[frC_8 f] w fun e w' => ∃ A c, e = .returned (.slice A 20 c) ∧ Rd w' w'.heap.size A 20 (putF f) ∧ Below w.heap.size w w' := by
  obtain ⟨T, O, I, L, P, s, d, hf, s4, d4, tl, ol, il, ll, pl, hput⟩ := put_hdr hok hr
  have HS4 := Lib.hid s4
  have HD4 := Lib.hid d4
  have HPUT := Lib.hid hput
  have hsrc : ∀ W, Blk_8 W 68 w.heap.size (frL_8 f) → ∀ j v, (s.map v8)[j]? = some v → W.cell? ⟨w.heap.size, 9 + j, none⟩ = some v := fun W hW j v hv => by
    refine hW.srcB j v ?_
    rw [hf]
    show ((s ++ z12).map v8)[j]? = some v
    rw [List.map_append, List.getElem?_append_left (List.getElem?_eq_some_iff.1 hv).1]; exact hv
  have hdst : ∀ W, Blk_8 W 68 w.heap.size (frL_8 f) → ∀ j v, (d.map v8)[j]? = some v → W.cell? ⟨w.heap.size, 26 + j, none⟩ = some v := fun W hW j v hv => by
    refine hW.dstB hok j v ?_
    rw [hf]
    show ((d ++ z12).map v8)[j]? = some v
    rw [List.map_append, List.getElem?_append_left (List.getElem?_eq_some_iff.1 hv).1]; exact hv
  have HSRC := Lib.hid hsrc
  have HDST := Lib.hid hdst
  obtain ⟨ke, hke⟩ : ∃ ke, f.keep = ke := ⟨_, rfl⟩
  have HFL := Lib.hid (show flagW f = if ke then 16384 else 0 by unfold flagW; rw [hke])
  rw [hke] at hf
  have hcells : frL_8 f = [.int .i64 20, .int .i64 (T : Int), .int .i64 (O : Int), .int .i64 (I : Int), .bool false, .bool ke, .int .i64 (L : Int), .int .i64 (P : Int)] ++ (adL f.s ++ adL f.d) := by
    unfold frL_8 frN_8
    rw [hf]
  have hb1 := Blk_8.new w 68 (frL_8 f)
  have k1 := hb1.cell (i := 1) (v := .int .i64 (T : Int)) (by rw [hcells]; rfl)
  have k2 := hb1.cell (i := 2) (v := .int .i64 (O : Int)) (by rw [hcells]; rfl)
  have k3 := hb1.cell (i := 3) (v := .int .i64 (I : Int)) (by rw [hcells]; rfl)
  have k6 := hb1.cell (i := 6) (v := .int .i64 (L : Int)) (by rw [hcells]; rfl)
  have k7 := hb1.cell (i := 7) (v := .int .i64 (P : Int)) (by rw [hcells]; rfl)
  have hrow : Row8 ((w.alloc (.cells (frL_8 f).toArray 68)).alloc (.cells ((hdr O T I 0 L P 0 [] []).map v8).toArray 5)) (w.heap.size + 1) (hdr O T I 0 L P 0 [] []) := by
    have := heap_alloc_new (w.alloc (.cells (frL_8 f).toArray 68)) (.cells ((hdr O T I 0 L P 0 [] []).map v8).toArray 5)
    simpa [Row8] using this
  have hq1 := hb1.alloc (.cells ((hdr O T I 0 L P 0 [] []).map v8).toArray 5)
  have hB1 := ((Below.refl w.heap.size w).alloc (Nat.le_refl _) (.cells (frL_8 f).toArray 68)).alloc (by simp) (.cells ((hdr O T I 0 L P 0 [] []).map v8).toArray 5)
  have k5 := hq1.cell (i := 5) (v := .bool ke) (by rw [hcells]; rfl)
  obtain ⟨w1, hw1⟩ : ∃ w1, (w.alloc (.cells (frL_8 f).toArray 68)).alloc (.cells ((hdr O T I 0 L P 0 [] []).map v8).toArray 5) = w1 := ⟨_, rfl⟩
  rw [hw1] at hrow hq1 hB1
  rw [hdr_cells_8 tl ol il ll pl] at hw1 k5
  have HW1 := Lib.hid hw1
  have HR1 := Lib.hid hrow
  have HQ1 := Lib.hid hq1
  have HB1 := Lib.hid hB1
  have u1 : IntKind.u8.wrap (O : Int) = (O : Int) := by rw [IntKind.wrap_u8]; omega
  have u2 : IntKind.u8.wrap ((T : Int) / 256) = (T : Int) / 256 := by rw [IntKind.wrap_u8]; omega
  have u3 : IntKind.u8.wrap ((T : Int) % 256) = (T : Int) % 256 := by rw [IntKind.wrap_u8]; omega
  have u4 : IntKind.u8.wrap ((I : Int) / 256) = (I : Int) / 256 := by rw [IntKind.wrap_u8]; omega
  have u5 : IntKind.u8.wrap ((I : Int) % 256) = (I : Int) % 256 := by rw [IntKind.wrap_u8]; omega
  have u6 : IntKind.u8.wrap (L : Int) = (L : Int) := by rw [IntKind.wrap_u8]; omega
  have u7 : IntKind.u8.wrap (P : Int) = (P : Int) := by rw [IntKind.wrap_u8]; omega
  have HC64 := Lib.hid (show (64 : Int) = ((64 : UInt8).toNat : Int) from rfl)
  unfold frC_8
  obtain ⟨C, hC⟩ : ∃ C, (frL_8 f).toArray = C := ⟨_, rfl⟩
  rw [hC] at k1 k2 k3 k5 k6 k7 HW1 ⊢
  clear hC hb1 hq1 hB1 hw1 hrow hr hok s4 d4 hput hsrc hdst hke hcells hf
  cases ke with
  | true =>
    have HFL2 : Hid (flagW f = 16384) := Lib.hid (by rw [HFL.out]; rfl)
    go_enter Try.func28, Try.ntmps28
    go_wp2_with ((with_reducible show wpList _ _ _ _ _ _); rw [HW1.out]; refine wpList_store8_8 rfl (.tmp 36) _ rfl (w.heap.size + 1) 6 (by rfl) (64 : UInt8) 64 HC64.out (by rfl) _ HR1.out (show 6 < 12 by decide) ?_; intro w2 hR2 hB2)
    have hR2' : Row8 w2 (w.heap.size + 1) (hdr O T I 16384 L P 0 [] []) := hR2
    have HQ := Lib.hid (HQ1.out.below (Nat.lt_succ_self _) hB2)
    have HBL := Lib.hid (HB1.out.trans (hB2.mono (Nat.le_succ _)))
    have HO : Hid (Own8 w2 (w.heap.size + 1) (.slice (some ⟨w.heap.size + 1, 0, none⟩) 12 12) (hdr O T I 16384 L P 0 [] [])) := Lib.hid (hR2'.own (n := 12) (Nat.le_refl _) (show 12 ≤ 12 by decide) (by simp [hdr, maxLen]))
    clear hR2 hR2' hB2 k1 k2 k3 k5 k6 k7
    go_loopw [3, 4] (fun vv i wr => ∃ (k : Nat), k ≤ 4 ∧ i = .int .i64 (k : Int) ∧ Own8 wr (w.heap.size + 1) vv (hdr O T I 16384 L P 0 [] [] ++ s.take k) ∧ Blk_8 wr 68 w.heap.size (frL_8 f) ∧ Below w.heap.size w wr) (fun _ i _ => 4 - (intOf i).toNat)
    case atStart => exact ⟨0, by omega, rfl, by rw [List.take_zero, List.append_nil]; exact HO.out, HQ.out, HBL.out⟩
    case round =>
      obtain ⟨k, hk, rfl, hown, hq, hB⟩ := hrel
      have hsz := hB.size
      have hsl := hown.sl
      by_cases hlt : k < 4
      · have hlt' : (k : Int) < 4 := by omega
        obtain ⟨x, hx⟩ : ∃ x, s[k]? = some x := ⟨_, List.getElem?_eq_getElem (by rw [HS4.out]; exact hlt)⟩
        have hc : wr.cell? ⟨w.heap.size, 9 + k, none⟩ = some (.int .u8 (x.toNat : Int)) := HSRC.out wr hq k _ (by rw [List.getElem?_map, hx]; rfl)
        have ht : (hdr O T I 16384 L P 0 [] [] ++ s.take k) ++ [x] = hdr O T I 16384 L P 0 [] [] ++ s.take (k + 1) := by
          obtain ⟨h1, h2⟩ := List.getElem?_eq_some_iff.1 hx
          rw [← List.take_append_getElem h1, h2, List.append_assoc]
        have hln : (hdr O T I 16384 L P 0 [] [] ++ s.take k).length ≤ 100 := by rw [List.length_append, List.length_take]; show 12 + _ ≤ 100; omega
        have HT := Lib.hid ht
        have HLN := Lib.hid hln
        have HQ := Lib.hid hq
        have hlr : w.heap.size + 1 ≤ wr.heap.size := Nat.succ_le_of_lt hq.lt
        clear ht hln hx hq hsl
        go_wp2_with (at_builtin; refine wpList_append8 rfl _ _ rfl (w.heap.size + 1) _ (hdr O T I 16384 L P 0 [] [] ++ s.take k) (by rfl) (hown.alloc _) _ _ _ _ [x] (by rfl) (Rd.one wr x) (by have := HLN.out; omega) (by simp; omega) ?_; intro v' wz hown' hgrow _)
        have hb1 := (hB.alloc hsz (.cells #[.int .u8 (x.toNat : Int)] 5)).grown hgrow (by simp; omega) (fun g hg => by have := hown.lt g hg; omega)
        have hq1 := (HQ.out.alloc (.cells #[.int .u8 (x.toNat : Int)] 5)).grown hgrow (fun e => by have := hown.lt _ e; omega)
        rw [HT.out] at hown'
        go_wp2_with fail
        go_roundw
        case rel => exact ⟨k + 1, by omega, by go_num, hown', hq1, hb1⟩
        case measure => simp [intOf]; omega
      · have hlt' : ¬ (k : Int) < 4 := by omega
        rw [List.take_of_length_le (by rw [HS4.out]; omega)] at hown
        have HO2 := Lib.hid hown
        have HQ2 := Lib.hid hq
        have HB2 := Lib.hid hB
        clear hown hq hB hsl hsz hlt
        go_wp2_with fail
        go_loopw [3, 5] (fun vv i wr => ∃ (k : Nat), k ≤ 4 ∧ i = .int .i64 (k : Int) ∧ Own8 wr (w.heap.size + 1) vv ((hdr O T I 16384 L P 0 [] [] ++ s) ++ d.take k) ∧ Blk_8 wr 68 w.heap.size (frL_8 f) ∧ Below w.heap.size w wr) (fun _ i _ => 4 - (intOf i).toNat)
        case atStart => exact ⟨0, by omega, rfl, by rw [List.take_zero, List.append_nil]; exact HO2.out, HQ2.out, HB2.out⟩
        case round =>
          clear HO2 HQ2 HB2
          obtain ⟨k, hk, rfl, hown, hq, hB⟩ := hrel
          have hsz := hB.size
          by_cases hlt : k < 4
          · have hlt' : (k : Int) < 4 := by omega
            obtain ⟨x, hx⟩ : ∃ x, d[k]? = some x := ⟨_, List.getElem?_eq_getElem (by rw [HD4.out]; exact hlt)⟩
            have hc : wr.cell? ⟨w.heap.size, 26 + k, none⟩ = some (.int .u8 (x.toNat : Int)) := HDST.out wr hq k _ (by rw [List.getElem?_map, hx]; rfl)
            have ht : ((hdr O T I 16384 L P 0 [] [] ++ s) ++ d.take k) ++ [x] = (hdr O T I 16384 L P 0 [] [] ++ s) ++ d.take (k + 1) := by
              obtain ⟨h1, h2⟩ := List.getElem?_eq_some_iff.1 hx
              rw [← List.take_append_getElem h1, h2, List.append_assoc]
            have hln : ((hdr O T I 16384 L P 0 [] [] ++ s) ++ d.take k).length ≤ 100 := by rw [List.length_append, List.length_append, List.length_take, HS4.out]; show 12 + 4 + _ ≤ 100; omega
            have HT := Lib.hid ht
            have HLN := Lib.hid hln
            have HQ := Lib.hid hq
            have hlr : w.heap.size + 1 ≤ wr.heap.size := Nat.succ_le_of_lt hq.lt
            clear ht hln hx hq
            go_wp2_with (at_builtin; refine wpList_append8 rfl _ _ rfl (w.heap.size + 1) _ ((hdr O T I 16384 L P 0 [] [] ++ s) ++ d.take k) (by rfl) (hown.alloc _) _ _ _ _ [x] (by rfl) (Rd.one wr x) (by have := HLN.out; omega) (by simp; omega) ?_; intro v' wz hown' hgrow _)
            have hb1 := (hB.alloc hsz (.cells #[.int .u8 (x.toNat : Int)] 5)).grown hgrow (by simp; omega) (fun g hg => by have := hown.lt g hg; omega)
            have hq1 := (HQ.out.alloc (.cells #[.int .u8 (x.toNat : Int)] 5)).grown hgrow (fun e => by have := hown.lt _ e; omega)
            rw [HT.out] at hown'
            go_wp2_with fail
            go_roundw
            case rel => exact ⟨k + 1, by omega, by go_num, hown', hq1, hb1⟩
            case measure => simp [intOf]; omega
          · obtain rfl : k = 4 := by omega
            rw [List.take_of_length_le (by rw [HD4.out]; omega), hdr_parts] at hown
            have hlen : (hdr O T I 16384 L P 0 s d).length = 20 := hdr_len _ _ _ _ _ _ _ _ _ HS4.out HD4.out
            have hck := ckOf_le (hdr O T I 16384 L P 0 s d)
            obtain ⟨g, cp, hv, hcp, hcm, hbg, hgl, hheld⟩ := own_form_8 hown hlen (by omega)
            have hrd := hheld.rd hgl hlen
            have HS := Lib.hid (rsum_any (some ⟨g, 0, none⟩) 20 cp _ (by omega) wr hrd (Nat.le_refl _))
            have HFIN := Lib.hid (HPUT.out 16384)
            obtain ⟨c, hcc⟩ : ∃ c, ckOf (hdr O T I 16384 L P 0 s d) = c := ⟨_, rfl⟩
            rw [hcc] at HS HFIN hck
            have HH := Lib.hid hheld
            have HLEN := Lib.hid hlen
            have HB3 := Lib.hid hB
            have q1 : IntKind.u8.wrap ((c : Int) / 256) = (c : Int) / 256 := by rw [IntKind.wrap_u8]; omega
            have q2 : IntKind.u8.wrap ((c : Int) % 256) = (c : Int) % 256 := by rw [IntKind.wrap_u8]; omega
            have HU1 := Lib.hid (show (c : Int) / 256 = ((UInt8.ofNat (c / 256)).toNat : Int) by rw [u8nat (by omega)]; omega)
            have HU2 := Lib.hid (show (c : Int) % 256 = ((UInt8.ofNat (c % 256)).toNat : Int) by rw [u8nat (by omega)]; omega)
            subst hv
            have HGB := Lib.hid hbg
            clear hown hq hB hsz hlt hcc hrd hheld hlen
            go_wp2_with fail
            refine HS.out.mono ?_
            rintro e ws ⟨rfl, hbs⟩
            have HHs := Lib.hid (HH.out.below hgl hbs)
            have HBs := Lib.hid (HB3.out.trans (hbs.mono HB3.out.size))
            clear hbs
            go_wp2_with (first
              | ((with_reducible show wpList _ _ _ _ _ _); refine wpList_storeH_8 rfl (.tmp 67) (.tmp 66) rfl g 10 (by rfl) (UInt8.ofNat (c / 256)) ((c : Int) / 256) HU1.out (by rfl) _ HHs.out (by rw [HLEN.out]; decide) ?_; intro wt hHt hBt; have HHt := Lib.hid hHt; have HBt := Lib.hid hBt; clear hHt hBt)
              | ((with_reducible show wpList _ _ _ _ _ _); refine wpList_storeH_8 rfl (.tmp 72) (.tmp 71) rfl g 11 (by rfl) (UInt8.ofNat (c % 256)) ((c : Int) % 256) HU2.out (by rfl) _ HHt.out (by rw [List.length_set, HLEN.out]; decide) ?_; intro wu hHu hBu; have HHu := Lib.hid hHu; have HBu := Lib.hid hBu; clear hHu hBu))
            have hlc : (hdr O T I 16384 L P c s d).length = 20 := hdr_len _ _ _ _ _ _ _ _ _ HS4.out HD4.out
            have hBB : Below g ws wu := HBt.out.trans HBu.out
            have hfin : Held_8 wu g (hdr O T I 16384 L P c s d) := HHu.out
            have hgs : g < wu.heap.size := by have h1 := hBB.size; have h2 := HHs.out.lt (by rw [HLEN.out]; omega); omega
            go_ret
            exact ⟨_, _, rfl, by unfold putF; rw [HFL2.out, HFIN.out]; exact hfin.rd hgs hlc, HBs.out.trans (hBB.mono (by have := HGB.out; omega))⟩
  | false =>
    have HFL2 : Hid (flagW f = 0) := Lib.hid (by rw [HFL.out]; rfl)
    go_enter Try.func28, Try.ntmps28
    go_wp2_with fail
    rw [HW1.out]
    have HQ := HQ1
    have HBL := HB1
    have HO : Hid (Own8 w1 (w.heap.size + 1) (.slice (some ⟨w.heap.size + 1, 0, none⟩) 12 12) (hdr O T I 0 L P 0 [] [])) := Lib.hid (HR1.out.own (n := 12) (Nat.le_refl _) (show 12 ≤ 12 by decide) (by simp [hdr, maxLen]))
    clear k1 k2 k3 k5 k6 k7
    go_loopw [3, 4] (fun vv i wr => ∃ (k : Nat), k ≤ 4 ∧ i = .int .i64 (k : Int) ∧ Own8 wr (w.heap.size + 1) vv (hdr O T I 0 L P 0 [] [] ++ s.take k) ∧ Blk_8 wr 68 w.heap.size (frL_8 f) ∧ Below w.heap.size w wr) (fun _ i _ => 4 - (intOf i).toNat)
    case atStart => exact ⟨0, by omega, rfl, by rw [List.take_zero, List.append_nil]; exact HO.out, HQ.out, HBL.out⟩
    case round =>
      obtain ⟨k, hk, rfl, hown, hq, hB⟩ := hrel
      have hsz := hB.size
      have hsl := hown.sl
      by_cases hlt : k < 4
      · have hlt' : (k : Int) < 4 := by omega
        obtain ⟨x, hx⟩ : ∃ x, s[k]? = some x := ⟨_, List.getElem?_eq_getElem (by rw [HS4.out]; exact hlt)⟩
        have hc : wr.cell? ⟨w.heap.size, 9 + k, none⟩ = some (.int .u8 (x.toNat : Int)) := HSRC.out wr hq k _ (by rw [List.getElem?_map, hx]; rfl)
        have ht : (hdr O T I 0 L P 0 [] [] ++ s.take k) ++ [x] = hdr O T I 0 L P 0 [] [] ++ s.take (k + 1) := by
          obtain ⟨h1, h2⟩ := List.getElem?_eq_some_iff.1 hx
          rw [← List.take_append_getElem h1, h2, List.append_assoc]
        have hln : (hdr O T I 0 L P 0 [] [] ++ s.take k).length ≤ 100 := by rw [List.length_append, List.length_take]; show 12 + _ ≤ 100; omega
        have HT := Lib.hid ht
        have HLN := Lib.hid hln
        have HQ := Lib.hid hq
        have hlr : w.heap.size + 1 ≤ wr.heap.size := Nat.succ_le_of_lt hq.lt
        clear ht hln hx hq hsl
        go_wp2_with (at_builtin; refine wpList_append8 rfl _ _ rfl (w.heap.size + 1) _ (hdr O T I 0 L P 0 [] [] ++ s.take k) (by rfl) (hown.alloc _) _ _ _ _ [x] (by rfl) (Rd.one wr x) (by have := HLN.out; omega) (by simp; omega) ?_; intro v' wz hown' hgrow _)
        have hb1 := (hB.alloc hsz (.cells #[.int .u8 (x.toNat : Int)] 5)).grown hgrow (by simp; omega) (fun g hg => by have := hown.lt g hg; omega)
        have hq1 := (HQ.out.alloc (.cells #[.int .u8 (x.toNat : Int)] 5)).grown hgrow (fun e => by have := hown.lt _ e; omega)
        rw [HT.out] at hown'
        go_wp2_with fail
        go_roundw
        case rel => exact ⟨k + 1, by omega, by go_num, hown', hq1, hb1⟩
        case measure => simp [intOf]; omega
      · have hlt' : ¬ (k : Int) < 4 := by omega
        rw [List.take_of_length_le (by rw [HS4.out]; omega)] at hown
        have HO2 := Lib.hid hown
        have HQ2 := Lib.hid hq
        have HB2 := Lib.hid hB
        clear hown hq hB hsl hsz hlt
        go_wp2_with fail
        go_loopw [3, 5] (fun vv i wr => ∃ (k : Nat), k ≤ 4 ∧ i = .int .i64 (k : Int) ∧ Own8 wr (w.heap.size + 1) vv ((hdr O T I 0 L P 0 [] [] ++ s) ++ d.take k) ∧ Blk_8 wr 68 w.heap.size (frL_8 f) ∧ Below w.heap.size w wr) (fun _ i _ => 4 - (intOf i).toNat)
        case atStart => exact ⟨0, by omega, rfl, by rw [List.take_zero, List.append_nil]; exact HO2.out, HQ2.out, HB2.out⟩
        case round =>
          clear HO2 HQ2 HB2
          obtain ⟨k, hk, rfl, hown, hq, hB⟩ := hrel
          have hsz := hB.size
          by_cases hlt : k < 4
          · have hlt' : (k : Int) < 4 := by omega
            obtain ⟨x, hx⟩ : ∃ x, d[k]? = some x := ⟨_, List.getElem?_eq_getElem (by rw [HD4.out]; exact hlt)⟩
            have hc : wr.cell? ⟨w.heap.size, 26 + k, none⟩ = some (.int .u8 (x.toNat : Int)) := HDST.out wr hq k _ (by rw [List.getElem?_map, hx]; rfl)
            have ht : ((hdr O T I 0 L P 0 [] [] ++ s) ++ d.take k) ++ [x] = (hdr O T I 0 L P 0 [] [] ++ s) ++ d.take (k + 1) := by
              obtain ⟨h1, h2⟩ := List.getElem?_eq_some_iff.1 hx
              rw [← List.take_append_getElem h1, h2, List.append_assoc]
            have hln : ((hdr O T I 0 L P 0 [] [] ++ s) ++ d.take k).length ≤ 100 := by rw [List.length_append, List.length_append, List.length_take, HS4.out]; show 12 + 4 + _ ≤ 100; omega
            have HT := Lib.hid ht
            have HLN := Lib.hid hln
            have HQ := Lib.hid hq
            have hlr : w.heap.size + 1 ≤ wr.heap.size := Nat.succ_le_of_lt hq.lt
            clear ht hln hx hq
            go_wp2_with (at_builtin; refine wpList_append8 rfl _ _ rfl (w.heap.size + 1) _ ((hdr O T I 0 L P 0 [] [] ++ s) ++ d.take k) (by rfl) (hown.alloc _) _ _ _ _ [x] (by rfl) (Rd.one wr x) (by have := HLN.out; omega) (by simp; omega) ?_; intro v' wz hown' hgrow _)
            have hb1 := (hB.alloc hsz (.cells #[.int .u8 (x.toNat : Int)] 5)).grown hgrow (by simp; omega) (fun g hg => by have := hown.lt g hg; omega)
            have hq1 := (HQ.out.alloc (.cells #[.int .u8 (x.toNat : Int)] 5)).grown hgrow (fun e => by have := hown.lt _ e; omega)
            rw [HT.out] at hown'
            go_wp2_with fail
            go_roundw
            case rel => exact ⟨k + 1, by omega, by go_num, hown', hq1, hb1⟩
            case measure => simp [intOf]; omega
          · obtain rfl : k = 4 := by omega
            rw [List.take_of_length_le (by rw [HD4.out]; omega), hdr_parts] at hown
            have hlen : (hdr O T I 0 L P 0 s d).length = 20 := hdr_len _ _ _ _ _ _ _ _ _ HS4.out HD4.out
            have hck := ckOf_le (hdr O T I 0 L P 0 s d)
            obtain ⟨g, cp, hv, hcp, hcm, hbg, hgl, hheld⟩ := own_form_8 hown hlen (by omega)
            have hrd := hheld.rd hgl hlen
            have HS := Lib.hid (rsum_any (some ⟨g, 0, none⟩) 20 cp _ (by omega) wr hrd (Nat.le_refl _))
            have HFIN := Lib.hid (HPUT.out 0)
            obtain ⟨c, hcc⟩ : ∃ c, ckOf (hdr O T I 0 L P 0 s d) = c := ⟨_, rfl⟩
            rw [hcc] at HS HFIN hck
            have HH := Lib.hid hheld
            have HLEN := Lib.hid hlen
            have HB3 := Lib.hid hB
            have q1 : IntKind.u8.wrap ((c : Int) / 256) = (c : Int) / 256 := by rw [IntKind.wrap_u8]; omega
            have q2 : IntKind.u8.wrap ((c : Int) % 256) = (c : Int) % 256 := by rw [IntKind.wrap_u8]; omega
            have HU1 := Lib.hid (show (c : Int) / 256 = ((UInt8.ofNat (c / 256)).toNat : Int) by rw [u8nat (by omega)]; omega)
            have HU2 := Lib.hid (show (c : Int) % 256 = ((UInt8.ofNat (c % 256)).toNat : Int) by rw [u8nat (by omega)]; omega)
            subst hv
            have HGB := Lib.hid hbg
            clear hown hq hB hsz hlt hcc hrd hheld hlen
            go_wp2_with fail
            refine HS.out.mono ?_
            rintro e ws ⟨rfl, hbs⟩
            have HHs := Lib.hid (HH.out.below hgl hbs)
            have HBs := Lib.hid (HB3.out.trans (hbs.mono HB3.out.size))
            clear hbs
            go_wp2_with (first
              | ((with_reducible show wpList _ _ _ _ _ _); refine wpList_storeH_8 rfl (.tmp 67) (.tmp 66) rfl g 10 (by rfl) (UInt8.ofNat (c / 256)) ((c : Int) / 256) HU1.out (by rfl) _ HHs.out (by rw [HLEN.out]; decide) ?_; intro wt hHt hBt; have HHt := Lib.hid hHt; have HBt := Lib.hid hBt; clear hHt hBt)
              | ((with_reducible show wpList _ _ _ _ _ _); refine wpList_storeH_8 rfl (.tmp 72) (.tmp 71) rfl g 11 (by rfl) (UInt8.ofNat (c % 256)) ((c : Int) % 256) HU2.out (by rfl) _ HHt.out (by rw [List.length_set, HLEN.out]; decide) ?_; intro wu hHu hBu; have HHu := Lib.hid hHu; have HBu := Lib.hid hBu; clear hHu hBu))
            have hlc : (hdr O T I 0 L P c s d).length = 20 := hdr_len _ _ _ _ _ _ _ _ _ HS4.out HD4.out
            have hBB : Below g ws wu := HBt.out.trans HBu.out
            have hfin : Held_8 wu g (hdr O T I 0 L P c s d) := HHu.out
            have hgs : g < wu.heap.size := by have h1 := hBB.size; have h2 := HHs.out.lt (by rw [HLEN.out]; omega); omega
            go_ret
            exact ⟨_, _, rfl, by unfold putF; rw [HFL2.out, HFIN.out]; exact hfin.rd hgs hlc, HBs.out.trans (hBB.mono (by have := HGB.out; omega))⟩
end
end Go.Proofs.Ytomkfcpellcncaa
