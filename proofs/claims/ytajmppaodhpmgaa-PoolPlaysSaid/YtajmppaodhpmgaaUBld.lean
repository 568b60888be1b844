/-
  A slice of one element of many cells, written out.
  A pool as an answer; a backend with a field written anew.
-/
import Derived.Test.YtajmppaodhpmgaaGSl
import Derived.Great.CaseRows
import Derived.Test.YtajmppaodhpmgaaUCell
namespace Go.Proofs.Ytajmppaodhpmgaa
set_option maxRecDepth 100000
open Go.RowKit Go.Lib

theorem wpList_build1 {α : Type} (E : Enc α) (hk : E.k ≤ 1000) (x : α) {w : World} {ops : Array Oper} {rest : List Oper} {o : Oper} {a : Act} {Q : Exit → Act → World → Prop} (hgd : o.guard = none) (i : Tmp) (ho : o.op = .buildSlice E.S 1 #[(0, .tmp i)])
    (C : Array Value) (hC : (E.f x).toArray = C) (hev : a.eval (.tmp i) = .agg C)
    (h : wpList Try.prog ops Q rest (a.put o.dst (.slice (some ⟨w.heap.size, 0, none⟩) 1 1)) (w.alloc (.cells C E.T))) : wpList Try.prog ops Q (o :: rest) a w := by
  subst hC
  obtain ⟨i0, hi, hz0, hz1, hz2⟩ := E.parts
  refine Great.wpList_buildRows hgd E.S E.T #[(0, .tmp i)] E.k [.agg (E.f x).toArray] ho (fun _ => i) w.heap.size rfl o.dst rfl E.und (by rw [hi]; show some i0.size = _; rw [hz1]) (by rw [hi]; show i0.zero.isSome = true; rw [hz0]; rfl) E.pos Nat.zero_lt_one (by simp; omega) rfl ?_ ?_ ?_
  · intro v hv
    rw [List.mem_singleton.1 hv]
    show (E.f x).toArray.size = _
    rw [List.size_toArray, E.len]
  · intro j hj
    obtain rfl : j = 0 := by simpa using hj
    exact hev
  · have e : ([Value.agg (E.f x).toArray].flatMap fun v => v.cells.toList).toArray = (E.f x).toArray := by
      show ((E.f x).toArray.toList ++ []).toArray = _
      rw [List.append_nil]
    rw [e]
    exact h
end Go.Proofs.Ytajmppaodhpmgaa
namespace Go.Proofs.Ytajmppaodhpmgaa
set_option maxRecDepth 100000
open Go.RowKit Go.Lib

theorem poolSize : (Try.prog.info? 24).map (·.size) = some 2 := by kernel_rfl
theorem results_pool {fn : Func} {p u : Tmp} (hr : fn.results = #[.cell p 24, .tmp u]) (tmps : Array Value) (w : World) (g : Nat) (hp : tmps.getD p undef = .pointer (some ⟨g, 0, none⟩)) (cs : List Value) (hl : cs.length = 2) (hb : Blk w 24 g cs)
    (v : Value) (hu : tmps.getD u undef = v) : (results fn tmps).run Try.prog w = .ok (.tuple #[.agg cs.toArray, v]) w := by
  have hz := run_loadVar_mid (P := Try.prog) w g 0 24 cs _ (Blk_10.range hb) Try.underlying24 rfl (by rw [hl]; exact poolSize)
  rw [results_cell_tmp hr, hp, hu]
  simp [Result.andThen, asAddr, hz]
theorem bkL_set (b : Bk) (i : Nat) (hi : i < 2) (v : Value) : (bkL b).set (25 + i) v = strV b.nm :: (adL b.ad ++ (.int .i64 b.port :: (b.mac.map v8 ++ ([.float .f64 b.wt, .bool b.dr] : List Value).set i v))) := by
  unfold bkL
  rw [show 25 + i = (24 + i) + 1 by omega, List.set_cons_succ, List.set_append, if_neg (by rw [adL_len b.hb]; omega), adL_len b.hb, show 24 + i - 17 = (6 + i) + 1 by omega, List.set_cons_succ, List.set_append, if_neg (by rw [List.length_map, b.hm]; omega), List.length_map, b.hm, Nat.add_sub_cancel_left]
theorem bkL_wt (b : Bk) {u : Nat} (hu : u < T64) : (bkL b).set 25 (.float .f64 u) = bkL { b with wt := u, hw := hu } := bkL_set b 0 (by decide) _
theorem bkL_dr (b : Bk) (d : Bool) : (bkL b).set 26 (.bool d) = bkL { b with dr := d } := bkL_set b 1 (by decide) _
end Go.Proofs.Ytajmppaodhpmgaa
