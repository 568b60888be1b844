/-
  The contract of cursor.Scan: the deferred closure, the loop, the panic that is recovered.
-/
import Derived.Test.YtghocjigmcdobaaCPcs
import Derived.Defers
import Derived.Recover
import Derived.Deep.AppendLies
namespace Go.Proofs.Ytghocjigmcdobaa
open Go.RowKit Go.Lib

/-- What a scan comes to: the pieces, or a fault and its byte. -/
inductive SR where
  | ok (ps : List Pc)
  | bad (a e : Nat)

/-- The scan from here on, with the pieces that were read ahead. -/
def scanGo (s : RS) : List It → List Pc → SR
  | [], acc => if 0 < s.left then .bad s.at_ 3 else .ok acc
  | x :: xs, acc => if mayB x.k x.n = true then (if (itS s x).fe = 0 then scanGo (itS s x) xs (acc ++ [⟨itN s x, itBs s x⟩]) else .bad (itS s x).fa (itS s x).fe) else .bad s.at_ 1

set_option maxRecDepth 100000 in
set_option maxHeartbeats 1000000 in
/-- The deferred closure, of a frame that returns: recover finds nothing. -/
theorem catch_idle (p q : Addr) (w : World) :
    CallsD Try.prog 36 #[.pointer (some p), .pointer (some q)] .returning w fun e u' w' => e = .returned (.tuple #[]) ∧ u' = .returning ∧ w = w' := by
  refine callsD_of_wpS Try.func36 rfl fun c₀ cs hu => ?_
  apply wpS_seq
  apply wpS_region
  simp [wpOpsS, go_sem, recoverD, hu, Try.ntmps36, Exit.thenS]
  apply wpS_seq
  apply wpS_seq
  apply wpS_region
  simp [wpOpsS, go_sem, Exit.thenS]
  refine wpS_cond (t := true) (by simp [Act.eval, Array.replicate]) ?_
  simp only [if_true]
  refine wpS_of_wp (wp_ret ?_)
  cases c₀
  simp_all [bodyPostS, results, Try.results36, Exit.thenS]

set_option maxRecDepth 100000 in
set_option maxHeartbeats 1000000 in
/-- The deferred closure, of a frame that panics with a fault: recover finds it, and the results are laid. -/
theorem catch_panic (P : Nat) (v : Value) (a e0 : Nat) (w : World) (h1 : Bk w P 25 #[v]) (h2 : Bk w (P + 1) 28 #[.int .i64 0, .int .i64 0]) :
    CallsD Try.prog 36 #[.pointer (some ⟨P, 0, none⟩), .pointer (some ⟨P + 1, 0, none⟩)] (.panicking [{ v := .iface 71 (.agg #[.int .i64 (a : Int), .int .i64 (e0 : Int)]), recovered := false }]) w fun e u' w' =>
      e = .returned (.tuple #[]) ∧ u' = .panicking [{ v := .iface 71 (.agg #[.int .i64 (a : Int), .int .i64 (e0 : Int)]), recovered := true }] ∧ Bk w' P 25 #[.slice none 0 0] ∧ Bk w' (P + 1) 28 #[.int .i64 (a : Int), .int .i64 (e0 : Int)] ∧ Below P w w' := by
  refine callsD_of_wpS Try.func36 rfl fun c₀ cs hu => ?_
  apply wpS_seq
  apply wpS_region
  simp [wpOpsS, go_sem, recoverD, hu, Try.ntmps36, Exit.thenS]
  apply wpS_seq
  apply wpS_seq
  apply wpS_region
  simp [wpOpsS, go_sem, Exit.thenS]
  refine wpS_cond (t := false) (by simp [Act.eval, Array.replicate]) ?_
  simp only [Bool.false_eq_true, if_false]
  refine wpS_of_wp (wp_skip ?_)
  refine wpS_of_wp ?_
  simp only [Array.replicate_succ, Array.replicate_zero, List.push_toArray, List.nil_append, List.cons_append, List.setIfInBounds_toArray, List.set_cons_succ, List.set_cons_zero, List.append_toArray]
  have h1a := h1.alloc (.cells #[.int .i64 (a : Int), .int .i64 (e0 : Int)] 71)
  have h2a := h2.alloc (.cells #[.int .i64 (a : Int), .int .i64 (e0 : Int)] 71)
  have l0 := h1a.c 0 _ rfl
  have s0 := h2a.c 0 _ rfl
  have s1 := h2a.c 1 _ rfl
  have lz := h1a.fz 0
  have sz0 := h2a.fz 0
  have sz1 := h2a.fz 1
  have hP := h2.lt
  have hta : ∀ (u : Value) (W : World), (Instr.typeAssert (.iface 71 u) 20 71 true).run Try.prog W = .ok (.tuple #[u, .bool true]) W := fun u W => by
    simp [Instr.typeAssert, run_underlying Try.underlying71]
  go_wp2_with fail
  go_region
  have f1 : Bk _ P 25 #[.slice none 0 0] := ((h1a.set 0 (.slice none 0 0)).far (p := ⟨P + 1, 0, none⟩) (by simp) (.int .i64 (a : Int))).far (p := ⟨P + 1, 1, none⟩) (by simp) (.int .i64 (e0 : Int))
  have f2 : Bk _ (P + 1) 28 #[.int .i64 (a : Int), .int .i64 (e0 : Int)] := ((h2a.far (p := ⟨P, 0, none⟩) (by simp) (.slice none 0 0)).set 0 (.int .i64 (a : Int))).set 1 (.int .i64 (e0 : Int))
  exact ⟨rfl, _, rfl, _, results_none rfl _ _ _, rfl, rfl, f1, f2, (((((Below.refl P w).alloc (by omega) _).setCell (Nat.le_refl _) _).setCell (Nat.le_succ _) _).setCell (Nat.le_succ _) _).drew⟩

theorem Bk.drew {w : World} {b : Nat} {t : TypeId} {cs : Array Value} (h : Bk w b t cs) : Bk w.drew b t cs := h
theorem Rdr.drew {w : World} {P : Nat} {A : Option Addr} {cap : Nat} {s : RS} (h : Rdr w P A cap s) : Rdr w.drew P A cap s := ⟨h.blk, h.rd, h.le, h.few, h.room, h.most⟩

/-- What Scan answers. -/
def ScanGave (w : World) (r : SR) (e : Ending) (w' : World) : Prop :=
  Below w.heap.size w w' ∧ match r with
    | .ok ps => ∃ v, e = .returned (.tuple #[v, spotOf 0 0]) ∧ OwnP w' w.heap.size v ps
    | .bad a e0 => e = .returned (.tuple #[.slice none 0 0, spotOf a e0])

/-- Two structs' and slices' cells as results. -/
theorem rres2 {fn : Func} (h : fn.results = #[.cell 4 25, .cell 5 28]) (tmps : Array Value) (w : World) (b c : Nat) (hp : tmps.getD 4 undef = .pointer (some ⟨b, 0, none⟩)) (hq : tmps.getD 5 undef = .pointer (some ⟨c, 0, none⟩)) {v u0 u1 : Value}
    (hb : Bk w b 25 #[v]) (hc : Bk w c 28 #[u0, u1]) :
    (results fn tmps).run Try.prog w = .ok (.tuple #[v, .agg #[u0, u1]]) w := by
  have c0 := hb.c 0 _ rfl
  have d0 := hc.c 0 _ rfl
  have d1 := hc.c 1 _ rfl
  have hp' : tmps[4]?.getD undef = .pointer (some ⟨b, 0, none⟩) := by simpa using hp
  have hq' : tmps[5]?.getD undef = .pointer (some ⟨c, 0, none⟩) := by simpa using hq
  simp [results, h, hp', hq', go_sem, c0, d0, d1]

/-- The way out by a panic. -/
theorem scan_leave {tmps : Array Value} {w w9 : World} {v : Value} {a e0 : Nat} (h4 : tmps.getD 4 undef = .pointer (some ⟨w.heap.size, 0, none⟩)) (h5 : tmps.getD 5 undef = .pointer (some ⟨w.heap.size + 1, 0, none⟩))
    (L9 : Bk w9 w.heap.size 25 #[v]) (S9 : Bk w9 (w.heap.size + 1) 28 #[.int .i64 0, .int .i64 0]) (B9 : Below w.heap.size w w9) :
    bodyPostD Try.prog Try.f11 (ScanGave w (SR.bad a e0)) (Exit.panic (gave a e0)) { tmps := tmps, defers := [{ target := .fn (.func 36) #[.pointer (some ⟨w.heap.size, 0, none⟩), .pointer (some ⟨w.heap.size + 1, 0, none⟩)], args := #[] }] } w9 := by
  refine leaves_cons (f := 36) (args := #[.pointer (some ⟨w.heap.size, 0, none⟩), .pointer (some ⟨w.heap.size + 1, 0, none⟩)]) (by simp) (by simp [go_sem]) ?_
  refine (catch_panic w.heap.size v _ _ _ L9 S9).mono ?_
  rintro e u' w'' ⟨rfl, rfl, f1, f2, f3⟩
  exact ⟨_, rres2 rfl _ _ _ _ h4 h5 f1 f2, B9.trans f3, rfl⟩

theorem cell_alloc_far (w : World) (o : Obj) (p : Addr) (h : p.block < w.heap.size) : (w.alloc o).cell? p = w.cell? p := ((Below.refl _ _).alloc (Nat.le_refl _) o).cell h
theorem frozen_alloc_far (w : World) (o : Obj) (p : Addr) (h : p.block < w.heap.size) : (w.alloc o).frozen? p = w.frozen? p := ((Below.refl _ _).alloc (Nat.le_refl _) o).frozen h
/-- What a round's statement reads: the box of the pieces, the box of the item. -/
def SK (L I : Nat) (v : Value) (x : It) (w' : World) : Prop :=
  w'.cell? ⟨L, 0, none⟩ = some v ∧ w'.cell? ⟨I, 0, none⟩ = some (.int .i64 x.k) ∧ w'.cell? ⟨I, 1, none⟩ = some (.int .i64 x.n) ∧ w'.cell? ⟨I, 2, none⟩ = some (.bool x.b) ∧ w'.frozen? ⟨L, 0, none⟩ = false
theorem SK.of {L I : Nat} {v : Value} {x : It} {w w' : World} (h : SK L I v x w) (hL : w'.heap[L]? = w.heap[L]?) (hI : w'.heap[I]? = w.heap[I]?) : SK L I v x w' :=
  ⟨(World.cell?_of_block hL).trans h.1, (World.cell?_of_block hI).trans h.2.1, (World.cell?_of_block hI).trans h.2.2.1, (World.cell?_of_block hI).trans h.2.2.2.1, (World.frozen?_of_block hL).trans h.2.2.2.2⟩
theorem SK.grown {L I : Nat} {v : Value} {x : It} {w w' : World} {row : Option Nat} (h : SK L I v x w) (hg : w.grownBy w' row) (hL : L < w.heap.size) (hI : I < w.heap.size) (h1 : some L ≠ row) (h2 : some I ≠ row) : SK L I v x w' := h.of (hg.block L hL h1) (hg.block I hI h2)
theorem SK.alloc {L I : Nat} {v : Value} {x : It} {w : World} (h : SK L I v x w) (o : Obj) (hL : L < w.heap.size) (hI : I < w.heap.size) : SK L I v x (w.alloc o) := h.of (Below.heap_alloc w o L hL) (Below.heap_alloc w o I hI)
theorem scan_box {L : Nat} {v : Value} {w w' : World} {row : Option Nat} {t : TypeId} (h : Bk w L t #[v]) (hg : w.grownBy w' row) (hr : some L ≠ row) (u : Value) : Bk (w'.setCell ⟨L, 0, none⟩ u) L t #[u] :=
  Bk.set (w := w') (b := L) (t := t) (cs := #[v]) ((hg.block L h.lt hr).trans h) 0 u
theorem scan_spot {L : Nat} {w w' : World} {row : Option Nat} {t : TypeId} {cs : Array Value} (h : Bk w (L + 1) t cs) (hg : w.grownBy w' row) (hr : some (L + 1) ≠ row) (u : Value) : Bk (w'.setCell ⟨L, 0, none⟩ u) (L + 1) t cs :=
  Bk.far (w := w') (b := L + 1) (t := t) (cs := cs) ((hg.block (L + 1) h.lt hr).trans h) (p := ⟨L, 0, none⟩) (by simp) u
theorem scan_rdr {L P : Nat} {A : Option Addr} {cap : Nat} {s : RS} {w w' : World} {row : Option Nat} {t : TypeId} {v : Value} (h : Rdr w P A cap s) (hg : w.grownBy w' row) (hr : ∀ g, row = some g → P < g) (hL : L < P) (hB : Bk w L t #[v]) (hv : ∃ A m c, v = .slice A m c) (u : Value) : Rdr (w'.setCell ⟨L, 0, none⟩ u) P A cap s := by
  have hP : w'.heap[P]? = w.heap[P]? := hg.block P h.lt (fun e => by have := hr P e.symm; omega)
  refine ⟨(Below.heap_setCell w' _ u P (by simp; omega)).trans (hP.trans h.blk), ⟨h.rd.1, fun hn => ?_⟩, h.le, h.few, h.room, h.most⟩
  obtain ⟨b, off, e, hb, hc⟩ := h.rd.2 hn
  refine ⟨b, off, e, hb, fun j x hx => ?_⟩
  have hbL : b ≠ L := by
    rintro rfl
    have h1 := hc j x hx
    rw [cell_of_row w b (off + j) _ _ (0, 0) hB] at h1
    obtain ⟨A, m, c, rfl⟩ := hv
    rcases Nat.eq_zero_or_pos (off + j) with h0 | h0
    · rw [h0] at h1; cases h1
    · rw [Array.getElem?_eq_none (by simp; omega)] at h1; cases h1
  have h1 : (w'.setCell ⟨L, 0, none⟩ u).cell? ⟨b, off + j, none⟩ = w'.cell? ⟨b, off + j, none⟩ := World.cell?_setCell_other _ _ _ _ (fun e2 => hbL (congrArg Addr.block e2).symm)
  rw [h1]
  exact (World.cell?_of_block (hg.block b (by have := h.lt; omega) (fun e2 => by have := hr b e2.symm; omega))).trans (hc j x hx)
theorem own_ne {w : World} {base : Nat} {u v : Value} {xs : List UInt8} (h : Own8 w base u xs) (hv : ∀ g, v.ownBlock = some g → g < base) : u.ownBlock = none ∨ u.ownBlock ≠ v.ownBlock := by
  cases hu : u.ownBlock with
  | none => exact .inl rfl
  | some g => exact .inr (fun e => by have := h.lt g hu; have := hv g e.symm; omega)

set_option maxRecDepth 100000 in
set_option maxHeartbeats 4000000 in
theorem scan_any (A : Option Addr) (len cap : Nat) (bs : List UInt8) (A' : Option Addr) (len' cap' : Nat) (xs : List It) (hlen : len ≤ 100000) (hlen' : len' ≤ 1000) (hxs : ∀ x ∈ xs, -9223372036854775808 ≤ x.n ∧ x.n ≤ 9223372036854775807) (w : World)
    (hI : Rd w w.heap.size A len bs) (hJ : PlanAt w w.heap.size A' len' xs) :
    Calls Try.prog 11 #[.slice A len cap, .slice A' len' cap'] w (ScanGave w (scanGo ⟨bs, 0, 0, 0⟩ xs [])) := by
  have hmf : ∀ (fn : Fn) (first cap : Array Value) (w : World), (Instr.makeFunc fn first cap).run Try.prog w = .ok (.func fn first cap) w := fun _ _ _ _ => rfl
  have HX := Lib.hid hJ.size
  obtain ⟨R, hR⟩ : ∃ R, scanGo ⟨bs, 0, 0, 0⟩ xs [] = R := ⟨_, rfl⟩
  rw [hR]
  have HR := Lib.hid hR
  have HQ := Lib.hid hxs
  have L0 := (Bk.new w 25 #[.slice none 0 0]).alloc (.cells #[.int .i64 0, .int .i64 0] 28)
  have S0 := Bk.new (w.alloc (.cells #[.slice none 0 0] 25)) 28 #[.int .i64 0, .int .i64 0]
  rw [World.size_alloc] at S0
  have hB2 : Below w.heap.size w ((w.alloc (.cells #[.slice none 0 0] 25)).alloc (.cells #[.int .i64 0, .int .i64 0] 28)) := ((Below.refl _ _).alloc (Nat.le_refl _) _).alloc (by simp) _
  clear hR hxs
  go_enter_defers Try.func11, Try.ntmps11
  go_wp2_with fail
  refine (new_any A len cap bs hlen _ ((hI.below hB2).more (by simp <;> omega))).mono ?_
  rintro e w1 ⟨P, A2, cap2, rfl, hr1, hP1, hb1⟩
  have L1 := L0.below hb1
  have S1 := S0.below hb1
  have hB1 := hB2.trans (hb1.mono (by simp <;> omega))
  simp only [World.size_alloc] at hP1
  go_wp2_with fail
  go_loopw [14] (fun i wr => ∃ (k : Nat) (s : RS) (v : Value) (ps : List Pc), k ≤ len' ∧ i = .int .i64 (k : Int) ∧ Bk wr w.heap.size 25 #[v] ∧ Bk wr (w.heap.size + 1) 28 #[.int .i64 0, .int .i64 0] ∧ OwnP wr (P + 1) v ps ∧ Rdr wr P A2 cap2 s ∧ s.fe = 0 ∧ ps.length = k ∧ scanGo s (xs.drop k) ps = R ∧ Below w.heap.size w wr)
    (fun i _ => len' - (intOf i).toNat)
  case atStart => exact ⟨0, _, _, [], Nat.zero_le _, rfl, L1, S1, OwnP.nil_ _ _, hr1, rfl, rfl, HR.out, hB1⟩
  case round =>
    obtain ⟨k, s, v, ps, hk, rfl, hL, hS, hO, hRd, hf, hps, hg, hB⟩ := hrel
    have hsz := hB.size
    have Hps := Lib.hid hps
    have Hf := Lib.hid hf
    clear hps
    by_cases hlt : k < len'
    · have hlt' : (k : Int) < (len' : Int) := by omega
      have hk0 : (0 : Int) ≤ (k : Int) := by omega
      obtain ⟨b, off, rfl, hb, hcx⟩ := hJ.2 (by omega)
      obtain ⟨x, hx⟩ : ∃ x, xs[k]? = some x := ⟨_, List.getElem?_eq_getElem (by rw [HX.out]; exact hlt)⟩
      obtain ⟨x0, x1, x2⟩ := hcx k x hx
      rw [← hB.cell hb] at x0 x1 x2
      have hxn := HQ.out x (List.mem_of_getElem? hx)
      have hdx : xs.drop k = x :: xs.drop (k + 1) := by
        have h1 := List.getElem?_eq_some_iff.1 hx
        rw [← h1.2]; exact List.drop_eq_getElem_cons h1.1
      rw [hdx] at hg
      unfold scanGo at hg
      clear hdx hx hcx hJ hI
      have L2 := hL.alloc (.cells #[.int .i64 x.k, .int .i64 x.n, .bool x.b] 68)
      have S2 := hS.alloc (.cells #[.int .i64 x.k, .int .i64 x.n, .bool x.b] 68)
      have R2 := hRd.alloc (.cells #[.int .i64 x.k, .int .i64 x.n, .bool x.b] 68)
      have B2 := hB.alloc hsz (.cells #[.int .i64 x.k, .int .i64 x.n, .bool x.b] 68)
      have l0 := L2.c 0 _ rfl
      have lz := L2.fz 0
      by_cases hbad : ∃ a0 e0, R = .bad a0 e0 ∧ ∀ W, Rdr W P A2 cap2 s → Calls Try.prog 37 #[.pointer (some ⟨P, 0, none⟩), .agg #[.int .i64 x.k, .int .i64 x.n, .bool x.b]] W fun e w' => W.grownBy w' (some P) ∧ e = .panicked (gave a0 e0)
      · clear hf hg
        obtain ⟨a0, e0, hRb, hM⟩ := hbad
        subst hRb
        have HM := Lib.hid hM
        clear hM hO
        go_wp2_with fail
        refine wp_region_any (by kernel_rfl) ?_
        try (change wpAny _ _ _ _ _ _ _ (World.drew _))
        refine wpAny_ready (rs := [0, 1, 2]) (by kernel_rfl) (by simp) ?_
        refine AllReady.cons rfl (fun K hK => ?_) ?_
        · go_simp
          refine hK _ _ ?_
          clear hK K
          refine wpAny_ready (rs := [1, 2]) (by kernel_rfl) (by simp) ?_
          refine AllReady.cons rfl (fun K hK => ?_) ?_
          · go_simp
            refine hK _ _ ?_
            clear hK K
            refine wpAny_ready (rs := [2]) (by kernel_rfl) (by simp) ?_
            refine AllReady.cons rfl (fun K hK => ?_) ?_
            · go_simp
              refine hK _ _ ?_
              clear hK K
              refine wpAny_ready (rs := [3]) (by kernel_rfl) (by simp) ?_
              refine AllReady.cons rfl (fun K hK => ?_) ?_
              · go_simp
                refine (HM.out _ R2.drew).mono ?_
                rintro e w9 ⟨g9, rfl⟩
                exact scan_leave rfl rfl (L2.drew.grown g9 (by omega)) (S2.drew.grown g9 (by omega)) (B2.drew.trans (gb_to_below (B := w.heap.size) g9 (by omega) (by simp <;> omega)))
              exact AllReady.nil
            exact AllReady.nil
          refine AllReady.cons rfl (fun K hK => ?_) ?_
          · go_simp
            refine hK _ _ ?_
            clear hK K
            refine wpAny_ready (rs := [1]) (by kernel_rfl) (by simp) ?_
            refine AllReady.cons rfl (fun K hK => ?_) ?_
            · go_simp
              refine hK _ _ ?_
              clear hK K
              refine wpAny_ready (rs := [3]) (by kernel_rfl) (by simp) ?_
              refine AllReady.cons rfl (fun K hK => ?_) ?_
              · go_simp
                refine (HM.out _ R2.drew).mono ?_
                rintro e w9 ⟨g9, rfl⟩
                exact scan_leave rfl rfl (L2.drew.grown g9 (by omega)) (S2.drew.grown g9 (by omega)) (B2.drew.trans (gb_to_below (B := w.heap.size) g9 (by omega) (by simp <;> omega)))
              exact AllReady.nil
            exact AllReady.nil
          exact AllReady.nil
        refine AllReady.cons rfl (fun K hK => ?_) ?_
        · go_simp
          refine hK _ _ ?_
          clear hK K
          refine wpAny_ready (rs := [0, 2]) (by kernel_rfl) (by simp) ?_
          refine AllReady.cons rfl (fun K hK => ?_) ?_
          · go_simp
            refine hK _ _ ?_
            clear hK K
            refine wpAny_ready (rs := [2]) (by kernel_rfl) (by simp) ?_
            refine AllReady.cons rfl (fun K hK => ?_) ?_
            · go_simp
              refine hK _ _ ?_
              clear hK K
              refine wpAny_ready (rs := [3]) (by kernel_rfl) (by simp) ?_
              refine AllReady.cons rfl (fun K hK => ?_) ?_
              · go_simp
                refine (HM.out _ R2.drew).mono ?_
                rintro e w9 ⟨g9, rfl⟩
                exact scan_leave rfl rfl (L2.drew.grown g9 (by omega)) (S2.drew.grown g9 (by omega)) (B2.drew.trans (gb_to_below (B := w.heap.size) g9 (by omega) (by simp <;> omega)))
              exact AllReady.nil
            exact AllReady.nil
          refine AllReady.cons rfl (fun K hK => ?_) ?_
          · go_simp
            refine hK _ _ ?_
            clear hK K
            refine wpAny_ready (rs := [0, 3]) (by kernel_rfl) (by simp) ?_
            refine AllReady.cons rfl (fun K hK => ?_) ?_
            · go_simp
              refine hK _ _ ?_
              clear hK K
              refine wpAny_ready (rs := [3]) (by kernel_rfl) (by simp) ?_
              refine AllReady.cons rfl (fun K hK => ?_) ?_
              · go_simp
                refine (HM.out _ R2.drew).mono ?_
                rintro e w9 ⟨g9, rfl⟩
                exact scan_leave rfl rfl (L2.drew.grown g9 (by omega)) (S2.drew.grown g9 (by omega)) (B2.drew.trans (gb_to_below (B := w.heap.size) g9 (by omega) (by simp <;> omega)))
              exact AllReady.nil
            refine AllReady.cons rfl (fun K hK => ?_) ?_
            · go_simp
              refine (HM.out _ R2.drew).mono ?_
              rintro e w9 ⟨g9, rfl⟩
              exact scan_leave rfl rfl (L2.drew.grown g9 (by omega)) (S2.drew.grown g9 (by omega)) (B2.drew.trans (gb_to_below (B := w.heap.size) g9 (by omega) (by simp <;> omega)))
            exact AllReady.nil
          exact AllReady.nil
        refine AllReady.cons rfl (fun K hK => ?_) ?_
        · go_simp
          refine hK _ _ ?_
          clear hK K
          refine wpAny_ready (rs := [0, 1]) (by kernel_rfl) (by simp) ?_
          refine AllReady.cons rfl (fun K hK => ?_) ?_
          · go_simp
            refine hK _ _ ?_
            clear hK K
            refine wpAny_ready (rs := [1]) (by kernel_rfl) (by simp) ?_
            refine AllReady.cons rfl (fun K hK => ?_) ?_
            · go_simp
              refine hK _ _ ?_
              clear hK K
              refine wpAny_ready (rs := [3]) (by kernel_rfl) (by simp) ?_
              refine AllReady.cons rfl (fun K hK => ?_) ?_
              · go_simp
                refine (HM.out _ R2.drew).mono ?_
                rintro e w9 ⟨g9, rfl⟩
                exact scan_leave rfl rfl (L2.drew.grown g9 (by omega)) (S2.drew.grown g9 (by omega)) (B2.drew.trans (gb_to_below (B := w.heap.size) g9 (by omega) (by simp <;> omega)))
              exact AllReady.nil
            exact AllReady.nil
          refine AllReady.cons rfl (fun K hK => ?_) ?_
          · go_simp
            refine hK _ _ ?_
            clear hK K
            refine wpAny_ready (rs := [0, 3]) (by kernel_rfl) (by simp) ?_
            refine AllReady.cons rfl (fun K hK => ?_) ?_
            · go_simp
              refine hK _ _ ?_
              clear hK K
              refine wpAny_ready (rs := [3]) (by kernel_rfl) (by simp) ?_
              refine AllReady.cons rfl (fun K hK => ?_) ?_
              · go_simp
                refine (HM.out _ R2.drew).mono ?_
                rintro e w9 ⟨g9, rfl⟩
                exact scan_leave rfl rfl (L2.drew.grown g9 (by omega)) (S2.drew.grown g9 (by omega)) (B2.drew.trans (gb_to_below (B := w.heap.size) g9 (by omega) (by simp <;> omega)))
              exact AllReady.nil
            refine AllReady.cons rfl (fun K hK => ?_) ?_
            · go_simp
              refine (HM.out _ R2.drew).mono ?_
              rintro e w9 ⟨g9, rfl⟩
              exact scan_leave rfl rfl (L2.drew.grown g9 (by omega)) (S2.drew.grown g9 (by omega)) (B2.drew.trans (gb_to_below (B := w.heap.size) g9 (by omega) (by simp <;> omega)))
            exact AllReady.nil
          exact AllReady.nil
        exact AllReady.nil
      · have hm : mayB x.k x.n = true := by
          cases hm : mayB x.k x.n with
          | true => rfl
          | false =>
            rw [hm, if_neg (by simp)] at hg
            exact absurd ⟨_, _, hg.symm, fun W h => (read_arg h hf x hm hxn.1 hxn.2).mono fun e w' ⟨_, g, he⟩ => ⟨g, he⟩⟩ hbad
        have hfe : (itS s x).fe = 0 := by
          by_cases hfe : (itS s x).fe = 0
          · exact hfe
          · rw [hm, if_pos rfl, if_neg hfe] at hg
            exact absurd ⟨_, _, hg.symm, fun W h => (read_any h x hm hxn.2).mono fun e w' ⟨_, g, he⟩ => ⟨g, by rwa [if_neg hfe] at he⟩⟩ hbad
        rw [hm, if_pos rfl, if_pos hfe] at hg
        have HM := Lib.hid (fun W (h : Rdr W P A2 cap2 s) => (read_any h x hm hxn.2).mono (R' := fun e w' => Rdr w' P A2 cap2 (itS s x) ∧ W.grownBy w' (some P) ∧ ∃ u, e = .returned (.agg #[.int .u64 ((itN s x : Nat) : Int), u]) ∧ Own8 w' W.heap.size u (itBs s x)) fun e w' ⟨h1, g, he⟩ => ⟨h1, g, by rwa [if_pos hfe] at he⟩)
        have HG := Lib.hid hg
        have HFe := Lib.hid hfe
        have hOa : OwnP (wr.alloc (.cells #[.int .i64 x.k, .int .i64 x.n, .bool x.b] 68)).drew (P + 1) v ps := hO.below (((Below.refl _ _).alloc (Nat.le_refl _) _).drew)
        have hOlt := hO.lt
        have hvs : Hid (∃ A m c, v = .slice A m c) := by obtain ⟨Ao, mo, co, hvo, _⟩ := hO.sl; exact ⟨Ao, mo, co, hvo⟩
        have hPw := hRd.lt
        obtain ⟨N, hN⟩ : ∃ N, itN s x = N := ⟨_, rfl⟩
        obtain ⟨BS, hBS⟩ : ∃ BS, itBs s x = BS := ⟨_, rfl⟩
        rw [hN, hBS] at HM HG
        have K0 : SK w.heap.size wr.heap.size v x (wr.alloc (.cells #[.int .i64 x.k, .int .i64 x.n, .bool x.b] 68)).drew := ⟨l0, (Bk.new wr _ _).c 0 _ rfl, (Bk.new wr _ _).c 1 _ rfl, (Bk.new wr _ _).c 2 _ rfl, lz⟩
        clear hbad hm hfe hf hg hN hBS
        have b0 : v.ownBlock ≠ some w.heap.size := fun e => by have := hOlt _ e; omega
        have b1 : v.ownBlock ≠ some wr.heap.size := fun e => by have := hOlt _ e; omega
        have k00 := K0.1
        go_wp2_with fail
        refine wp_region_any (by kernel_rfl) ?_
        try (change wpAny _ _ _ _ _ _ _ (World.drew _))
        refine wpAny_ready (rs := [0, 1, 2]) (by kernel_rfl) (by simp) ?_
        refine AllReady.cons rfl (fun K hK => ?_) ?_
        · go_simp
          refine hK _ _ ?_
          clear hK K
          refine wpAny_ready (rs := [1, 2]) (by kernel_rfl) (by simp) ?_
          refine AllReady.cons rfl (fun K hK => ?_) ?_
          · go_simp
            refine hK _ _ ?_
            clear hK K
            refine wpAny_ready (rs := [2]) (by kernel_rfl) (by simp) ?_
            refine AllReady.cons rfl (fun K hK => ?_) ?_
            · go_simp
              refine hK _ _ ?_
              clear hK K
              refine wpAny_ready (rs := [3]) (by kernel_rfl) (by simp) ?_
              refine AllReady.cons rfl (fun K hK => ?_) ?_
              · go_simp
                refine (HM.out _ R2.drew).mono ?_
                rintro e w9 ⟨h9, g9, u, rfl, hu⟩
                obtain ⟨A9, m9, c9, rfl, hm9, _, _, hr9⟩ := hu.sl
                have HM9 := Lib.hid hm9
                clear hm9 hr9
                have z9 : wr.heap.size + 1 ≤ w9.heap.size := by have := g9.size; simpa using this
                have K9 := K0.grown g9 (by simp; omega) (by simp) (by simp; omega) (by simp; omega)
                have K9a := K9.alloc (.cells #[.int .u64 (N : Int), .slice A9 m9 c9] 70) (by omega) (by omega)
                have k0 := K9.1
                have k1 := K9a.1
                refine hK _ _ ?_
                clear hK K
                refine wpAny_ready (rs := [4]) (by kernel_rfl) (by simp) ?_
                refine AllReady.cons rfl (fun K hK => ?_) ?_
                · go_simp
                  refine hK _ _ ?_
                  clear hK K
                  refine wpAny_ready (rs := [5]) (by kernel_rfl) (by simp) ?_
                  refine AllReady.cons rfl (fun K hK => ?_) ?_
                  · refine step_appendP (by rfl) _ _ (by rfl) (P + 1) v ps ⟨N, BS⟩ (.slice A9 m9 c9) (by rfl) w9.heap.size (by rfl) ((hu.base_le (by simp <;> omega)).alloc _) (own_ne hu (fun g hg => by have := hOlt g hg; simp <;> omega)) ((hOa.kept g9 (fun b hb => by cases hb; omega)).below ((Below.refl _ _).alloc (Nat.le_refl _) _)) (by have := Hps.out; omega) (by simp <;> omega) (Bk.new w9 _ _) ?_
                    intro v' w10 hO10 hgrow hob
                    have K10 := K9a.grown hgrow (by simp; omega) (by simp; omega) (Ne.symm b0) (Ne.symm b1)
                    obtain ⟨Av, mv, cv, rfl, hmv, _, _, hrv⟩ := hO10.sl
                    have HMv := Lib.hid hmv
                    have k2 := K10.1
                    have k3 := K10.2.2.2.2
                    clear hmv hrv
                    refine hK _ _ ?_
                    clear hK K
                    refine wpAny_ready (rs := [6]) (by kernel_rfl) (by simp) ?_
                    refine AllReady.cons rfl (fun K hK => ?_) ?_
                    · go_simp
                      refine hK _ _ ?_
                      clear hK K
                      refine wpAny_done (by kernel_rfl) ?_ _
                      have z10 : w9.heap.size + 1 ≤ w10.heap.size := by have := hgrow.size; simpa using this
                      have e9 : Below w.heap.size w w9 := B2.drew.trans (gb_to_below (B := w.heap.size) g9 (by omega) (by simp <;> omega))
                      have e10 : Below w.heap.size w (w10.setCell ⟨w.heap.size, 0, none⟩ (.slice Av mv cv)) := ((e9.alloc (by omega) _).grown hgrow (by simp; omega) (fun k hk => by have := hOlt k hk; omega)).setCell (Nat.le_refl _) _
                      have L10 : Bk (w10.setCell ⟨w.heap.size, 0, none⟩ (.slice Av mv cv)) w.heap.size 25 #[.slice Av mv cv] := scan_box ((L2.drew.grown g9 (by omega)).alloc _) hgrow (fun e => b0 e.symm) _
                      have S10 : Bk (w10.setCell ⟨w.heap.size, 0, none⟩ (.slice Av mv cv)) (w.heap.size + 1) 28 #[.int .i64 0, .int .i64 0] := scan_spot ((S2.drew.grown g9 (by omega)).alloc _) hgrow (fun e => by have := hOlt _ e.symm; omega) _
                      have h10 : Rdr (w10.setCell ⟨w.heap.size, 0, none⟩ (.slice Av mv cv)) P A2 cap2 (itS s x) := scan_rdr (h9.alloc _) hgrow (fun g hg => by have := hOlt g hg; omega) (by omega) ((L2.drew.grown g9 (by omega)).alloc _) hvs.out _
                      have O10 := hO10.kept (gb_set (World.grownBy.refl w10 (some w.heap.size)) 0 (.slice Av mv cv)) (fun b hb => by cases hb; omega)
                      go_wp2_with fail
                      go_roundw
                      case rel => exact ⟨k + 1, itS s x, _, ps ++ [⟨N, BS⟩], by omega, by go_num, L10, S10, O10, h10, HFe.out, by rw [List.length_append, Hps.out]; rfl, HG.out, e10⟩
                      case measure => simp [intOf]; omega
                    exact AllReady.nil
                  exact AllReady.nil
                exact AllReady.nil
              exact AllReady.nil
            exact AllReady.nil
          refine AllReady.cons rfl (fun K hK => ?_) ?_
          · go_simp
            refine hK _ _ ?_
            clear hK K
            refine wpAny_ready (rs := [1]) (by kernel_rfl) (by simp) ?_
            refine AllReady.cons rfl (fun K hK => ?_) ?_
            · go_simp
              refine hK _ _ ?_
              clear hK K
              refine wpAny_ready (rs := [3]) (by kernel_rfl) (by simp) ?_
              refine AllReady.cons rfl (fun K hK => ?_) ?_
              · go_simp
                refine (HM.out _ R2.drew).mono ?_
                rintro e w9 ⟨h9, g9, u, rfl, hu⟩
                obtain ⟨A9, m9, c9, rfl, hm9, _, _, hr9⟩ := hu.sl
                have HM9 := Lib.hid hm9
                clear hm9 hr9
                have z9 : wr.heap.size + 1 ≤ w9.heap.size := by have := g9.size; simpa using this
                have K9 := K0.grown g9 (by simp; omega) (by simp) (by simp; omega) (by simp; omega)
                have K9a := K9.alloc (.cells #[.int .u64 (N : Int), .slice A9 m9 c9] 70) (by omega) (by omega)
                have k0 := K9.1
                have k1 := K9a.1
                refine hK _ _ ?_
                clear hK K
                refine wpAny_ready (rs := [4]) (by kernel_rfl) (by simp) ?_
                refine AllReady.cons rfl (fun K hK => ?_) ?_
                · go_simp
                  refine hK _ _ ?_
                  clear hK K
                  refine wpAny_ready (rs := [5]) (by kernel_rfl) (by simp) ?_
                  refine AllReady.cons rfl (fun K hK => ?_) ?_
                  · refine step_appendP (by rfl) _ _ (by rfl) (P + 1) v ps ⟨N, BS⟩ (.slice A9 m9 c9) (by rfl) w9.heap.size (by rfl) ((hu.base_le (by simp <;> omega)).alloc _) (own_ne hu (fun g hg => by have := hOlt g hg; simp <;> omega)) ((hOa.kept g9 (fun b hb => by cases hb; omega)).below ((Below.refl _ _).alloc (Nat.le_refl _) _)) (by have := Hps.out; omega) (by simp <;> omega) (Bk.new w9 _ _) ?_
                    intro v' w10 hO10 hgrow hob
                    have K10 := K9a.grown hgrow (by simp; omega) (by simp; omega) (Ne.symm b0) (Ne.symm b1)
                    obtain ⟨Av, mv, cv, rfl, hmv, _, _, hrv⟩ := hO10.sl
                    have HMv := Lib.hid hmv
                    have k2 := K10.1
                    have k3 := K10.2.2.2.2
                    clear hmv hrv
                    refine hK _ _ ?_
                    clear hK K
                    refine wpAny_ready (rs := [6]) (by kernel_rfl) (by simp) ?_
                    refine AllReady.cons rfl (fun K hK => ?_) ?_
                    · go_simp
                      refine hK _ _ ?_
                      clear hK K
                      refine wpAny_done (by kernel_rfl) ?_ _
                      have z10 : w9.heap.size + 1 ≤ w10.heap.size := by have := hgrow.size; simpa using this
                      have e9 : Below w.heap.size w w9 := B2.drew.trans (gb_to_below (B := w.heap.size) g9 (by omega) (by simp <;> omega))
                      have e10 : Below w.heap.size w (w10.setCell ⟨w.heap.size, 0, none⟩ (.slice Av mv cv)) := ((e9.alloc (by omega) _).grown hgrow (by simp; omega) (fun k hk => by have := hOlt k hk; omega)).setCell (Nat.le_refl _) _
                      have L10 : Bk (w10.setCell ⟨w.heap.size, 0, none⟩ (.slice Av mv cv)) w.heap.size 25 #[.slice Av mv cv] := scan_box ((L2.drew.grown g9 (by omega)).alloc _) hgrow (fun e => b0 e.symm) _
                      have S10 : Bk (w10.setCell ⟨w.heap.size, 0, none⟩ (.slice Av mv cv)) (w.heap.size + 1) 28 #[.int .i64 0, .int .i64 0] := scan_spot ((S2.drew.grown g9 (by omega)).alloc _) hgrow (fun e => by have := hOlt _ e.symm; omega) _
                      have h10 : Rdr (w10.setCell ⟨w.heap.size, 0, none⟩ (.slice Av mv cv)) P A2 cap2 (itS s x) := scan_rdr (h9.alloc _) hgrow (fun g hg => by have := hOlt g hg; omega) (by omega) ((L2.drew.grown g9 (by omega)).alloc _) hvs.out _
                      have O10 := hO10.kept (gb_set (World.grownBy.refl w10 (some w.heap.size)) 0 (.slice Av mv cv)) (fun b hb => by cases hb; omega)
                      go_wp2_with fail
                      go_roundw
                      case rel => exact ⟨k + 1, itS s x, _, ps ++ [⟨N, BS⟩], by omega, by go_num, L10, S10, O10, h10, HFe.out, by rw [List.length_append, Hps.out]; rfl, HG.out, e10⟩
                      case measure => simp [intOf]; omega
                    exact AllReady.nil
                  exact AllReady.nil
                exact AllReady.nil
              exact AllReady.nil
            exact AllReady.nil
          exact AllReady.nil
        refine AllReady.cons rfl (fun K hK => ?_) ?_
        · go_simp
          refine hK _ _ ?_
          clear hK K
          refine wpAny_ready (rs := [0, 2]) (by kernel_rfl) (by simp) ?_
          refine AllReady.cons rfl (fun K hK => ?_) ?_
          · go_simp
            refine hK _ _ ?_
            clear hK K
            refine wpAny_ready (rs := [2]) (by kernel_rfl) (by simp) ?_
            refine AllReady.cons rfl (fun K hK => ?_) ?_
            · go_simp
              refine hK _ _ ?_
              clear hK K
              refine wpAny_ready (rs := [3]) (by kernel_rfl) (by simp) ?_
              refine AllReady.cons rfl (fun K hK => ?_) ?_
              · go_simp
                refine (HM.out _ R2.drew).mono ?_
                rintro e w9 ⟨h9, g9, u, rfl, hu⟩
                obtain ⟨A9, m9, c9, rfl, hm9, _, _, hr9⟩ := hu.sl
                have HM9 := Lib.hid hm9
                clear hm9 hr9
                have z9 : wr.heap.size + 1 ≤ w9.heap.size := by have := g9.size; simpa using this
                have K9 := K0.grown g9 (by simp; omega) (by simp) (by simp; omega) (by simp; omega)
                have K9a := K9.alloc (.cells #[.int .u64 (N : Int), .slice A9 m9 c9] 70) (by omega) (by omega)
                have k0 := K9.1
                have k1 := K9a.1
                refine hK _ _ ?_
                clear hK K
                refine wpAny_ready (rs := [4]) (by kernel_rfl) (by simp) ?_
                refine AllReady.cons rfl (fun K hK => ?_) ?_
                · go_simp
                  refine hK _ _ ?_
                  clear hK K
                  refine wpAny_ready (rs := [5]) (by kernel_rfl) (by simp) ?_
                  refine AllReady.cons rfl (fun K hK => ?_) ?_
                  · refine step_appendP (by rfl) _ _ (by rfl) (P + 1) v ps ⟨N, BS⟩ (.slice A9 m9 c9) (by rfl) w9.heap.size (by rfl) ((hu.base_le (by simp <;> omega)).alloc _) (own_ne hu (fun g hg => by have := hOlt g hg; simp <;> omega)) ((hOa.kept g9 (fun b hb => by cases hb; omega)).below ((Below.refl _ _).alloc (Nat.le_refl _) _)) (by have := Hps.out; omega) (by simp <;> omega) (Bk.new w9 _ _) ?_
                    intro v' w10 hO10 hgrow hob
                    have K10 := K9a.grown hgrow (by simp; omega) (by simp; omega) (Ne.symm b0) (Ne.symm b1)
                    obtain ⟨Av, mv, cv, rfl, hmv, _, _, hrv⟩ := hO10.sl
                    have HMv := Lib.hid hmv
                    have k2 := K10.1
                    have k3 := K10.2.2.2.2
                    clear hmv hrv
                    refine hK _ _ ?_
                    clear hK K
                    refine wpAny_ready (rs := [6]) (by kernel_rfl) (by simp) ?_
                    refine AllReady.cons rfl (fun K hK => ?_) ?_
                    · go_simp
                      refine hK _ _ ?_
                      clear hK K
                      refine wpAny_done (by kernel_rfl) ?_ _
                      have z10 : w9.heap.size + 1 ≤ w10.heap.size := by have := hgrow.size; simpa using this
                      have e9 : Below w.heap.size w w9 := B2.drew.trans (gb_to_below (B := w.heap.size) g9 (by omega) (by simp <;> omega))
                      have e10 : Below w.heap.size w (w10.setCell ⟨w.heap.size, 0, none⟩ (.slice Av mv cv)) := ((e9.alloc (by omega) _).grown hgrow (by simp; omega) (fun k hk => by have := hOlt k hk; omega)).setCell (Nat.le_refl _) _
                      have L10 : Bk (w10.setCell ⟨w.heap.size, 0, none⟩ (.slice Av mv cv)) w.heap.size 25 #[.slice Av mv cv] := scan_box ((L2.drew.grown g9 (by omega)).alloc _) hgrow (fun e => b0 e.symm) _
                      have S10 : Bk (w10.setCell ⟨w.heap.size, 0, none⟩ (.slice Av mv cv)) (w.heap.size + 1) 28 #[.int .i64 0, .int .i64 0] := scan_spot ((S2.drew.grown g9 (by omega)).alloc _) hgrow (fun e => by have := hOlt _ e.symm; omega) _
                      have h10 : Rdr (w10.setCell ⟨w.heap.size, 0, none⟩ (.slice Av mv cv)) P A2 cap2 (itS s x) := scan_rdr (h9.alloc _) hgrow (fun g hg => by have := hOlt g hg; omega) (by omega) ((L2.drew.grown g9 (by omega)).alloc _) hvs.out _
                      have O10 := hO10.kept (gb_set (World.grownBy.refl w10 (some w.heap.size)) 0 (.slice Av mv cv)) (fun b hb => by cases hb; omega)
                      go_wp2_with fail
                      go_roundw
                      case rel => exact ⟨k + 1, itS s x, _, ps ++ [⟨N, BS⟩], by omega, by go_num, L10, S10, O10, h10, HFe.out, by rw [List.length_append, Hps.out]; rfl, HG.out, e10⟩
                      case measure => simp [intOf]; omega
                    exact AllReady.nil
                  exact AllReady.nil
                exact AllReady.nil
              exact AllReady.nil
            exact AllReady.nil
          refine AllReady.cons rfl (fun K hK => ?_) ?_
          · go_simp
            refine hK _ _ ?_
            clear hK K
            refine wpAny_ready (rs := [0, 3]) (by kernel_rfl) (by simp) ?_
            refine AllReady.cons rfl (fun K hK => ?_) ?_
            · go_simp
              refine hK _ _ ?_
              clear hK K
              refine wpAny_ready (rs := [3]) (by kernel_rfl) (by simp) ?_
              refine AllReady.cons rfl (fun K hK => ?_) ?_
              · go_simp
                refine (HM.out _ R2.drew).mono ?_
                rintro e w9 ⟨h9, g9, u, rfl, hu⟩
                obtain ⟨A9, m9, c9, rfl, hm9, _, _, hr9⟩ := hu.sl
                have HM9 := Lib.hid hm9
                clear hm9 hr9
                have z9 : wr.heap.size + 1 ≤ w9.heap.size := by have := g9.size; simpa using this
                have K9 := K0.grown g9 (by simp; omega) (by simp) (by simp; omega) (by simp; omega)
                have K9a := K9.alloc (.cells #[.int .u64 (N : Int), .slice A9 m9 c9] 70) (by omega) (by omega)
                have k0 := K9.1
                have k1 := K9a.1
                refine hK _ _ ?_
                clear hK K
                refine wpAny_ready (rs := [4]) (by kernel_rfl) (by simp) ?_
                refine AllReady.cons rfl (fun K hK => ?_) ?_
                · go_simp
                  refine hK _ _ ?_
                  clear hK K
                  refine wpAny_ready (rs := [5]) (by kernel_rfl) (by simp) ?_
                  refine AllReady.cons rfl (fun K hK => ?_) ?_
                  · refine step_appendP (by rfl) _ _ (by rfl) (P + 1) v ps ⟨N, BS⟩ (.slice A9 m9 c9) (by rfl) w9.heap.size (by rfl) ((hu.base_le (by simp <;> omega)).alloc _) (own_ne hu (fun g hg => by have := hOlt g hg; simp <;> omega)) ((hOa.kept g9 (fun b hb => by cases hb; omega)).below ((Below.refl _ _).alloc (Nat.le_refl _) _)) (by have := Hps.out; omega) (by simp <;> omega) (Bk.new w9 _ _) ?_
                    intro v' w10 hO10 hgrow hob
                    have K10 := K9a.grown hgrow (by simp; omega) (by simp; omega) (Ne.symm b0) (Ne.symm b1)
                    obtain ⟨Av, mv, cv, rfl, hmv, _, _, hrv⟩ := hO10.sl
                    have HMv := Lib.hid hmv
                    have k2 := K10.1
                    have k3 := K10.2.2.2.2
                    clear hmv hrv
                    refine hK _ _ ?_
                    clear hK K
                    refine wpAny_ready (rs := [6]) (by kernel_rfl) (by simp) ?_
                    refine AllReady.cons rfl (fun K hK => ?_) ?_
                    · go_simp
                      refine hK _ _ ?_
                      clear hK K
                      refine wpAny_done (by kernel_rfl) ?_ _
                      have z10 : w9.heap.size + 1 ≤ w10.heap.size := by have := hgrow.size; simpa using this
                      have e9 : Below w.heap.size w w9 := B2.drew.trans (gb_to_below (B := w.heap.size) g9 (by omega) (by simp <;> omega))
                      have e10 : Below w.heap.size w (w10.setCell ⟨w.heap.size, 0, none⟩ (.slice Av mv cv)) := ((e9.alloc (by omega) _).grown hgrow (by simp; omega) (fun k hk => by have := hOlt k hk; omega)).setCell (Nat.le_refl _) _
                      have L10 : Bk (w10.setCell ⟨w.heap.size, 0, none⟩ (.slice Av mv cv)) w.heap.size 25 #[.slice Av mv cv] := scan_box ((L2.drew.grown g9 (by omega)).alloc _) hgrow (fun e => b0 e.symm) _
                      have S10 : Bk (w10.setCell ⟨w.heap.size, 0, none⟩ (.slice Av mv cv)) (w.heap.size + 1) 28 #[.int .i64 0, .int .i64 0] := scan_spot ((S2.drew.grown g9 (by omega)).alloc _) hgrow (fun e => by have := hOlt _ e.symm; omega) _
                      have h10 : Rdr (w10.setCell ⟨w.heap.size, 0, none⟩ (.slice Av mv cv)) P A2 cap2 (itS s x) := scan_rdr (h9.alloc _) hgrow (fun g hg => by have := hOlt g hg; omega) (by omega) ((L2.drew.grown g9 (by omega)).alloc _) hvs.out _
                      have O10 := hO10.kept (gb_set (World.grownBy.refl w10 (some w.heap.size)) 0 (.slice Av mv cv)) (fun b hb => by cases hb; omega)
                      go_wp2_with fail
                      go_roundw
                      case rel => exact ⟨k + 1, itS s x, _, ps ++ [⟨N, BS⟩], by omega, by go_num, L10, S10, O10, h10, HFe.out, by rw [List.length_append, Hps.out]; rfl, HG.out, e10⟩
                      case measure => simp [intOf]; omega
                    exact AllReady.nil
                  exact AllReady.nil
                exact AllReady.nil
              exact AllReady.nil
            refine AllReady.cons rfl (fun K hK => ?_) ?_
            · go_simp
              refine (HM.out _ R2.drew).mono ?_
              rintro e w9 ⟨h9, g9, u, rfl, hu⟩
              obtain ⟨A9, m9, c9, rfl, hm9, _, _, hr9⟩ := hu.sl
              have HM9 := Lib.hid hm9
              clear hm9 hr9
              have z9 : wr.heap.size + 1 ≤ w9.heap.size := by have := g9.size; simpa using this
              have K9 := K0.grown g9 (by simp; omega) (by simp) (by simp; omega) (by simp; omega)
              have K9a := K9.alloc (.cells #[.int .u64 (N : Int), .slice A9 m9 c9] 70) (by omega) (by omega)
              have k0 := K9.1
              have k1 := K9a.1
              refine hK _ _ ?_
              clear hK K
              refine wpAny_ready (rs := [0, 4]) (by kernel_rfl) (by simp) ?_
              refine AllReady.cons rfl (fun K hK => ?_) ?_
              · go_simp
                refine hK _ _ ?_
                clear hK K
                refine wpAny_ready (rs := [4]) (by kernel_rfl) (by simp) ?_
                refine AllReady.cons rfl (fun K hK => ?_) ?_
                · go_simp
                  refine hK _ _ ?_
                  clear hK K
                  refine wpAny_ready (rs := [5]) (by kernel_rfl) (by simp) ?_
                  refine AllReady.cons rfl (fun K hK => ?_) ?_
                  · refine step_appendP (by rfl) _ _ (by rfl) (P + 1) v ps ⟨N, BS⟩ (.slice A9 m9 c9) (by rfl) w9.heap.size (by rfl) ((hu.base_le (by simp <;> omega)).alloc _) (own_ne hu (fun g hg => by have := hOlt g hg; simp <;> omega)) ((hOa.kept g9 (fun b hb => by cases hb; omega)).below ((Below.refl _ _).alloc (Nat.le_refl _) _)) (by have := Hps.out; omega) (by simp <;> omega) (Bk.new w9 _ _) ?_
                    intro v' w10 hO10 hgrow hob
                    have K10 := K9a.grown hgrow (by simp; omega) (by simp; omega) (Ne.symm b0) (Ne.symm b1)
                    obtain ⟨Av, mv, cv, rfl, hmv, _, _, hrv⟩ := hO10.sl
                    have HMv := Lib.hid hmv
                    have k2 := K10.1
                    have k3 := K10.2.2.2.2
                    clear hmv hrv
                    refine hK _ _ ?_
                    clear hK K
                    refine wpAny_ready (rs := [6]) (by kernel_rfl) (by simp) ?_
                    refine AllReady.cons rfl (fun K hK => ?_) ?_
                    · go_simp
                      refine hK _ _ ?_
                      clear hK K
                      refine wpAny_done (by kernel_rfl) ?_ _
                      have z10 : w9.heap.size + 1 ≤ w10.heap.size := by have := hgrow.size; simpa using this
                      have e9 : Below w.heap.size w w9 := B2.drew.trans (gb_to_below (B := w.heap.size) g9 (by omega) (by simp <;> omega))
                      have e10 : Below w.heap.size w (w10.setCell ⟨w.heap.size, 0, none⟩ (.slice Av mv cv)) := ((e9.alloc (by omega) _).grown hgrow (by simp; omega) (fun k hk => by have := hOlt k hk; omega)).setCell (Nat.le_refl _) _
                      have L10 : Bk (w10.setCell ⟨w.heap.size, 0, none⟩ (.slice Av mv cv)) w.heap.size 25 #[.slice Av mv cv] := scan_box ((L2.drew.grown g9 (by omega)).alloc _) hgrow (fun e => b0 e.symm) _
                      have S10 : Bk (w10.setCell ⟨w.heap.size, 0, none⟩ (.slice Av mv cv)) (w.heap.size + 1) 28 #[.int .i64 0, .int .i64 0] := scan_spot ((S2.drew.grown g9 (by omega)).alloc _) hgrow (fun e => by have := hOlt _ e.symm; omega) _
                      have h10 : Rdr (w10.setCell ⟨w.heap.size, 0, none⟩ (.slice Av mv cv)) P A2 cap2 (itS s x) := scan_rdr (h9.alloc _) hgrow (fun g hg => by have := hOlt g hg; omega) (by omega) ((L2.drew.grown g9 (by omega)).alloc _) hvs.out _
                      have O10 := hO10.kept (gb_set (World.grownBy.refl w10 (some w.heap.size)) 0 (.slice Av mv cv)) (fun b hb => by cases hb; omega)
                      go_wp2_with fail
                      go_roundw
                      case rel => exact ⟨k + 1, itS s x, _, ps ++ [⟨N, BS⟩], by omega, by go_num, L10, S10, O10, h10, HFe.out, by rw [List.length_append, Hps.out]; rfl, HG.out, e10⟩
                      case measure => simp [intOf]; omega
                    exact AllReady.nil
                  exact AllReady.nil
                exact AllReady.nil
              refine AllReady.cons rfl (fun K hK => ?_) ?_
              · go_simp
                refine hK _ _ ?_
                clear hK K
                refine wpAny_ready (rs := [0]) (by kernel_rfl) (by simp) ?_
                refine AllReady.cons rfl (fun K hK => ?_) ?_
                · go_simp
                  refine hK _ _ ?_
                  clear hK K
                  refine wpAny_ready (rs := [5]) (by kernel_rfl) (by simp) ?_
                  refine AllReady.cons rfl (fun K hK => ?_) ?_
                  · refine step_appendP (by rfl) _ _ (by rfl) (P + 1) v ps ⟨N, BS⟩ (.slice A9 m9 c9) (by rfl) w9.heap.size (by rfl) ((hu.base_le (by simp <;> omega)).alloc _) (own_ne hu (fun g hg => by have := hOlt g hg; simp <;> omega)) ((hOa.kept g9 (fun b hb => by cases hb; omega)).below ((Below.refl _ _).alloc (Nat.le_refl _) _)) (by have := Hps.out; omega) (by simp <;> omega) (Bk.new w9 _ _) ?_
                    intro v' w10 hO10 hgrow hob
                    have K10 := K9a.grown hgrow (by simp; omega) (by simp; omega) (Ne.symm b0) (Ne.symm b1)
                    obtain ⟨Av, mv, cv, rfl, hmv, _, _, hrv⟩ := hO10.sl
                    have HMv := Lib.hid hmv
                    have k2 := K10.1
                    have k3 := K10.2.2.2.2
                    clear hmv hrv
                    refine hK _ _ ?_
                    clear hK K
                    refine wpAny_ready (rs := [6]) (by kernel_rfl) (by simp) ?_
                    refine AllReady.cons rfl (fun K hK => ?_) ?_
                    · go_simp
                      refine hK _ _ ?_
                      clear hK K
                      refine wpAny_done (by kernel_rfl) ?_ _
                      have z10 : w9.heap.size + 1 ≤ w10.heap.size := by have := hgrow.size; simpa using this
                      have e9 : Below w.heap.size w w9 := B2.drew.trans (gb_to_below (B := w.heap.size) g9 (by omega) (by simp <;> omega))
                      have e10 : Below w.heap.size w (w10.setCell ⟨w.heap.size, 0, none⟩ (.slice Av mv cv)) := ((e9.alloc (by omega) _).grown hgrow (by simp; omega) (fun k hk => by have := hOlt k hk; omega)).setCell (Nat.le_refl _) _
                      have L10 : Bk (w10.setCell ⟨w.heap.size, 0, none⟩ (.slice Av mv cv)) w.heap.size 25 #[.slice Av mv cv] := scan_box ((L2.drew.grown g9 (by omega)).alloc _) hgrow (fun e => b0 e.symm) _
                      have S10 : Bk (w10.setCell ⟨w.heap.size, 0, none⟩ (.slice Av mv cv)) (w.heap.size + 1) 28 #[.int .i64 0, .int .i64 0] := scan_spot ((S2.drew.grown g9 (by omega)).alloc _) hgrow (fun e => by have := hOlt _ e.symm; omega) _
                      have h10 : Rdr (w10.setCell ⟨w.heap.size, 0, none⟩ (.slice Av mv cv)) P A2 cap2 (itS s x) := scan_rdr (h9.alloc _) hgrow (fun g hg => by have := hOlt g hg; omega) (by omega) ((L2.drew.grown g9 (by omega)).alloc _) hvs.out _
                      have O10 := hO10.kept (gb_set (World.grownBy.refl w10 (some w.heap.size)) 0 (.slice Av mv cv)) (fun b hb => by cases hb; omega)
                      go_wp2_with fail
                      go_roundw
                      case rel => exact ⟨k + 1, itS s x, _, ps ++ [⟨N, BS⟩], by omega, by go_num, L10, S10, O10, h10, HFe.out, by rw [List.length_append, Hps.out]; rfl, HG.out, e10⟩
                      case measure => simp [intOf]; omega
                    exact AllReady.nil
                  exact AllReady.nil
                exact AllReady.nil
              exact AllReady.nil
            exact AllReady.nil
          exact AllReady.nil
        refine AllReady.cons rfl (fun K hK => ?_) ?_
        · go_simp
          refine hK _ _ ?_
          clear hK K
          refine wpAny_ready (rs := [0, 1]) (by kernel_rfl) (by simp) ?_
          refine AllReady.cons rfl (fun K hK => ?_) ?_
          · go_simp
            refine hK _ _ ?_
            clear hK K
            refine wpAny_ready (rs := [1]) (by kernel_rfl) (by simp) ?_
            refine AllReady.cons rfl (fun K hK => ?_) ?_
            · go_simp
              refine hK _ _ ?_
              clear hK K
              refine wpAny_ready (rs := [3]) (by kernel_rfl) (by simp) ?_
              refine AllReady.cons rfl (fun K hK => ?_) ?_
              · go_simp
                refine (HM.out _ R2.drew).mono ?_
                rintro e w9 ⟨h9, g9, u, rfl, hu⟩
                obtain ⟨A9, m9, c9, rfl, hm9, _, _, hr9⟩ := hu.sl
                have HM9 := Lib.hid hm9
                clear hm9 hr9
                have z9 : wr.heap.size + 1 ≤ w9.heap.size := by have := g9.size; simpa using this
                have K9 := K0.grown g9 (by simp; omega) (by simp) (by simp; omega) (by simp; omega)
                have K9a := K9.alloc (.cells #[.int .u64 (N : Int), .slice A9 m9 c9] 70) (by omega) (by omega)
                have k0 := K9.1
                have k1 := K9a.1
                refine hK _ _ ?_
                clear hK K
                refine wpAny_ready (rs := [4]) (by kernel_rfl) (by simp) ?_
                refine AllReady.cons rfl (fun K hK => ?_) ?_
                · go_simp
                  refine hK _ _ ?_
                  clear hK K
                  refine wpAny_ready (rs := [5]) (by kernel_rfl) (by simp) ?_
                  refine AllReady.cons rfl (fun K hK => ?_) ?_
                  · refine step_appendP (by rfl) _ _ (by rfl) (P + 1) v ps ⟨N, BS⟩ (.slice A9 m9 c9) (by rfl) w9.heap.size (by rfl) ((hu.base_le (by simp <;> omega)).alloc _) (own_ne hu (fun g hg => by have := hOlt g hg; simp <;> omega)) ((hOa.kept g9 (fun b hb => by cases hb; omega)).below ((Below.refl _ _).alloc (Nat.le_refl _) _)) (by have := Hps.out; omega) (by simp <;> omega) (Bk.new w9 _ _) ?_
                    intro v' w10 hO10 hgrow hob
                    have K10 := K9a.grown hgrow (by simp; omega) (by simp; omega) (Ne.symm b0) (Ne.symm b1)
                    obtain ⟨Av, mv, cv, rfl, hmv, _, _, hrv⟩ := hO10.sl
                    have HMv := Lib.hid hmv
                    have k2 := K10.1
                    have k3 := K10.2.2.2.2
                    clear hmv hrv
                    refine hK _ _ ?_
                    clear hK K
                    refine wpAny_ready (rs := [6]) (by kernel_rfl) (by simp) ?_
                    refine AllReady.cons rfl (fun K hK => ?_) ?_
                    · go_simp
                      refine hK _ _ ?_
                      clear hK K
                      refine wpAny_done (by kernel_rfl) ?_ _
                      have z10 : w9.heap.size + 1 ≤ w10.heap.size := by have := hgrow.size; simpa using this
                      have e9 : Below w.heap.size w w9 := B2.drew.trans (gb_to_below (B := w.heap.size) g9 (by omega) (by simp <;> omega))
                      have e10 : Below w.heap.size w (w10.setCell ⟨w.heap.size, 0, none⟩ (.slice Av mv cv)) := ((e9.alloc (by omega) _).grown hgrow (by simp; omega) (fun k hk => by have := hOlt k hk; omega)).setCell (Nat.le_refl _) _
                      have L10 : Bk (w10.setCell ⟨w.heap.size, 0, none⟩ (.slice Av mv cv)) w.heap.size 25 #[.slice Av mv cv] := scan_box ((L2.drew.grown g9 (by omega)).alloc _) hgrow (fun e => b0 e.symm) _
                      have S10 : Bk (w10.setCell ⟨w.heap.size, 0, none⟩ (.slice Av mv cv)) (w.heap.size + 1) 28 #[.int .i64 0, .int .i64 0] := scan_spot ((S2.drew.grown g9 (by omega)).alloc _) hgrow (fun e => by have := hOlt _ e.symm; omega) _
                      have h10 : Rdr (w10.setCell ⟨w.heap.size, 0, none⟩ (.slice Av mv cv)) P A2 cap2 (itS s x) := scan_rdr (h9.alloc _) hgrow (fun g hg => by have := hOlt g hg; omega) (by omega) ((L2.drew.grown g9 (by omega)).alloc _) hvs.out _
                      have O10 := hO10.kept (gb_set (World.grownBy.refl w10 (some w.heap.size)) 0 (.slice Av mv cv)) (fun b hb => by cases hb; omega)
                      go_wp2_with fail
                      go_roundw
                      case rel => exact ⟨k + 1, itS s x, _, ps ++ [⟨N, BS⟩], by omega, by go_num, L10, S10, O10, h10, HFe.out, by rw [List.length_append, Hps.out]; rfl, HG.out, e10⟩
                      case measure => simp [intOf]; omega
                    exact AllReady.nil
                  exact AllReady.nil
                exact AllReady.nil
              exact AllReady.nil
            exact AllReady.nil
          refine AllReady.cons rfl (fun K hK => ?_) ?_
          · go_simp
            refine hK _ _ ?_
            clear hK K
            refine wpAny_ready (rs := [0, 3]) (by kernel_rfl) (by simp) ?_
            refine AllReady.cons rfl (fun K hK => ?_) ?_
            · go_simp
              refine hK _ _ ?_
              clear hK K
              refine wpAny_ready (rs := [3]) (by kernel_rfl) (by simp) ?_
              refine AllReady.cons rfl (fun K hK => ?_) ?_
              · go_simp
                refine (HM.out _ R2.drew).mono ?_
                rintro e w9 ⟨h9, g9, u, rfl, hu⟩
                obtain ⟨A9, m9, c9, rfl, hm9, _, _, hr9⟩ := hu.sl
                have HM9 := Lib.hid hm9
                clear hm9 hr9
                have z9 : wr.heap.size + 1 ≤ w9.heap.size := by have := g9.size; simpa using this
                have K9 := K0.grown g9 (by simp; omega) (by simp) (by simp; omega) (by simp; omega)
                have K9a := K9.alloc (.cells #[.int .u64 (N : Int), .slice A9 m9 c9] 70) (by omega) (by omega)
                have k0 := K9.1
                have k1 := K9a.1
                refine hK _ _ ?_
                clear hK K
                refine wpAny_ready (rs := [4]) (by kernel_rfl) (by simp) ?_
                refine AllReady.cons rfl (fun K hK => ?_) ?_
                · go_simp
                  refine hK _ _ ?_
                  clear hK K
                  refine wpAny_ready (rs := [5]) (by kernel_rfl) (by simp) ?_
                  refine AllReady.cons rfl (fun K hK => ?_) ?_
                  · refine step_appendP (by rfl) _ _ (by rfl) (P + 1) v ps ⟨N, BS⟩ (.slice A9 m9 c9) (by rfl) w9.heap.size (by rfl) ((hu.base_le (by simp <;> omega)).alloc _) (own_ne hu (fun g hg => by have := hOlt g hg; simp <;> omega)) ((hOa.kept g9 (fun b hb => by cases hb; omega)).below ((Below.refl _ _).alloc (Nat.le_refl _) _)) (by have := Hps.out; omega) (by simp <;> omega) (Bk.new w9 _ _) ?_
                    intro v' w10 hO10 hgrow hob
                    have K10 := K9a.grown hgrow (by simp; omega) (by simp; omega) (Ne.symm b0) (Ne.symm b1)
                    obtain ⟨Av, mv, cv, rfl, hmv, _, _, hrv⟩ := hO10.sl
                    have HMv := Lib.hid hmv
                    have k2 := K10.1
                    have k3 := K10.2.2.2.2
                    clear hmv hrv
                    refine hK _ _ ?_
                    clear hK K
                    refine wpAny_ready (rs := [6]) (by kernel_rfl) (by simp) ?_
                    refine AllReady.cons rfl (fun K hK => ?_) ?_
                    · go_simp
                      refine hK _ _ ?_
                      clear hK K
                      refine wpAny_done (by kernel_rfl) ?_ _
                      have z10 : w9.heap.size + 1 ≤ w10.heap.size := by have := hgrow.size; simpa using this
                      have e9 : Below w.heap.size w w9 := B2.drew.trans (gb_to_below (B := w.heap.size) g9 (by omega) (by simp <;> omega))
                      have e10 : Below w.heap.size w (w10.setCell ⟨w.heap.size, 0, none⟩ (.slice Av mv cv)) := ((e9.alloc (by omega) _).grown hgrow (by simp; omega) (fun k hk => by have := hOlt k hk; omega)).setCell (Nat.le_refl _) _
                      have L10 : Bk (w10.setCell ⟨w.heap.size, 0, none⟩ (.slice Av mv cv)) w.heap.size 25 #[.slice Av mv cv] := scan_box ((L2.drew.grown g9 (by omega)).alloc _) hgrow (fun e => b0 e.symm) _
                      have S10 : Bk (w10.setCell ⟨w.heap.size, 0, none⟩ (.slice Av mv cv)) (w.heap.size + 1) 28 #[.int .i64 0, .int .i64 0] := scan_spot ((S2.drew.grown g9 (by omega)).alloc _) hgrow (fun e => by have := hOlt _ e.symm; omega) _
                      have h10 : Rdr (w10.setCell ⟨w.heap.size, 0, none⟩ (.slice Av mv cv)) P A2 cap2 (itS s x) := scan_rdr (h9.alloc _) hgrow (fun g hg => by have := hOlt g hg; omega) (by omega) ((L2.drew.grown g9 (by omega)).alloc _) hvs.out _
                      have O10 := hO10.kept (gb_set (World.grownBy.refl w10 (some w.heap.size)) 0 (.slice Av mv cv)) (fun b hb => by cases hb; omega)
                      go_wp2_with fail
                      go_roundw
                      case rel => exact ⟨k + 1, itS s x, _, ps ++ [⟨N, BS⟩], by omega, by go_num, L10, S10, O10, h10, HFe.out, by rw [List.length_append, Hps.out]; rfl, HG.out, e10⟩
                      case measure => simp [intOf]; omega
                    exact AllReady.nil
                  exact AllReady.nil
                exact AllReady.nil
              exact AllReady.nil
            refine AllReady.cons rfl (fun K hK => ?_) ?_
            · go_simp
              refine (HM.out _ R2.drew).mono ?_
              rintro e w9 ⟨h9, g9, u, rfl, hu⟩
              obtain ⟨A9, m9, c9, rfl, hm9, _, _, hr9⟩ := hu.sl
              have HM9 := Lib.hid hm9
              clear hm9 hr9
              have z9 : wr.heap.size + 1 ≤ w9.heap.size := by have := g9.size; simpa using this
              have K9 := K0.grown g9 (by simp; omega) (by simp) (by simp; omega) (by simp; omega)
              have K9a := K9.alloc (.cells #[.int .u64 (N : Int), .slice A9 m9 c9] 70) (by omega) (by omega)
              have k0 := K9.1
              have k1 := K9a.1
              refine hK _ _ ?_
              clear hK K
              refine wpAny_ready (rs := [0, 4]) (by kernel_rfl) (by simp) ?_
              refine AllReady.cons rfl (fun K hK => ?_) ?_
              · go_simp
                refine hK _ _ ?_
                clear hK K
                refine wpAny_ready (rs := [4]) (by kernel_rfl) (by simp) ?_
                refine AllReady.cons rfl (fun K hK => ?_) ?_
                · go_simp
                  refine hK _ _ ?_
                  clear hK K
                  refine wpAny_ready (rs := [5]) (by kernel_rfl) (by simp) ?_
                  refine AllReady.cons rfl (fun K hK => ?_) ?_
                  · refine step_appendP (by rfl) _ _ (by rfl) (P + 1) v ps ⟨N, BS⟩ (.slice A9 m9 c9) (by rfl) w9.heap.size (by rfl) ((hu.base_le (by simp <;> omega)).alloc _) (own_ne hu (fun g hg => by have := hOlt g hg; simp <;> omega)) ((hOa.kept g9 (fun b hb => by cases hb; omega)).below ((Below.refl _ _).alloc (Nat.le_refl _) _)) (by have := Hps.out; omega) (by simp <;> omega) (Bk.new w9 _ _) ?_
                    intro v' w10 hO10 hgrow hob
                    have K10 := K9a.grown hgrow (by simp; omega) (by simp; omega) (Ne.symm b0) (Ne.symm b1)
                    obtain ⟨Av, mv, cv, rfl, hmv, _, _, hrv⟩ := hO10.sl
                    have HMv := Lib.hid hmv
                    have k2 := K10.1
                    have k3 := K10.2.2.2.2
                    clear hmv hrv
                    refine hK _ _ ?_
                    clear hK K
                    refine wpAny_ready (rs := [6]) (by kernel_rfl) (by simp) ?_
                    refine AllReady.cons rfl (fun K hK => ?_) ?_
                    · go_simp
                      refine hK _ _ ?_
                      clear hK K
                      refine wpAny_done (by kernel_rfl) ?_ _
                      have z10 : w9.heap.size + 1 ≤ w10.heap.size := by have := hgrow.size; simpa using this
                      have e9 : Below w.heap.size w w9 := B2.drew.trans (gb_to_below (B := w.heap.size) g9 (by omega) (by simp <;> omega))
                      have e10 : Below w.heap.size w (w10.setCell ⟨w.heap.size, 0, none⟩ (.slice Av mv cv)) := ((e9.alloc (by omega) _).grown hgrow (by simp; omega) (fun k hk => by have := hOlt k hk; omega)).setCell (Nat.le_refl _) _
                      have L10 : Bk (w10.setCell ⟨w.heap.size, 0, none⟩ (.slice Av mv cv)) w.heap.size 25 #[.slice Av mv cv] := scan_box ((L2.drew.grown g9 (by omega)).alloc _) hgrow (fun e => b0 e.symm) _
                      have S10 : Bk (w10.setCell ⟨w.heap.size, 0, none⟩ (.slice Av mv cv)) (w.heap.size + 1) 28 #[.int .i64 0, .int .i64 0] := scan_spot ((S2.drew.grown g9 (by omega)).alloc _) hgrow (fun e => by have := hOlt _ e.symm; omega) _
                      have h10 : Rdr (w10.setCell ⟨w.heap.size, 0, none⟩ (.slice Av mv cv)) P A2 cap2 (itS s x) := scan_rdr (h9.alloc _) hgrow (fun g hg => by have := hOlt g hg; omega) (by omega) ((L2.drew.grown g9 (by omega)).alloc _) hvs.out _
                      have O10 := hO10.kept (gb_set (World.grownBy.refl w10 (some w.heap.size)) 0 (.slice Av mv cv)) (fun b hb => by cases hb; omega)
                      go_wp2_with fail
                      go_roundw
                      case rel => exact ⟨k + 1, itS s x, _, ps ++ [⟨N, BS⟩], by omega, by go_num, L10, S10, O10, h10, HFe.out, by rw [List.length_append, Hps.out]; rfl, HG.out, e10⟩
                      case measure => simp [intOf]; omega
                    exact AllReady.nil
                  exact AllReady.nil
                exact AllReady.nil
              refine AllReady.cons rfl (fun K hK => ?_) ?_
              · go_simp
                refine hK _ _ ?_
                clear hK K
                refine wpAny_ready (rs := [0]) (by kernel_rfl) (by simp) ?_
                refine AllReady.cons rfl (fun K hK => ?_) ?_
                · go_simp
                  refine hK _ _ ?_
                  clear hK K
                  refine wpAny_ready (rs := [5]) (by kernel_rfl) (by simp) ?_
                  refine AllReady.cons rfl (fun K hK => ?_) ?_
                  · refine step_appendP (by rfl) _ _ (by rfl) (P + 1) v ps ⟨N, BS⟩ (.slice A9 m9 c9) (by rfl) w9.heap.size (by rfl) ((hu.base_le (by simp <;> omega)).alloc _) (own_ne hu (fun g hg => by have := hOlt g hg; simp <;> omega)) ((hOa.kept g9 (fun b hb => by cases hb; omega)).below ((Below.refl _ _).alloc (Nat.le_refl _) _)) (by have := Hps.out; omega) (by simp <;> omega) (Bk.new w9 _ _) ?_
                    intro v' w10 hO10 hgrow hob
                    have K10 := K9a.grown hgrow (by simp; omega) (by simp; omega) (Ne.symm b0) (Ne.symm b1)
                    obtain ⟨Av, mv, cv, rfl, hmv, _, _, hrv⟩ := hO10.sl
                    have HMv := Lib.hid hmv
                    have k2 := K10.1
                    have k3 := K10.2.2.2.2
                    clear hmv hrv
                    refine hK _ _ ?_
                    clear hK K
                    refine wpAny_ready (rs := [6]) (by kernel_rfl) (by simp) ?_
                    refine AllReady.cons rfl (fun K hK => ?_) ?_
                    · go_simp
                      refine hK _ _ ?_
                      clear hK K
                      refine wpAny_done (by kernel_rfl) ?_ _
                      have z10 : w9.heap.size + 1 ≤ w10.heap.size := by have := hgrow.size; simpa using this
                      have e9 : Below w.heap.size w w9 := B2.drew.trans (gb_to_below (B := w.heap.size) g9 (by omega) (by simp <;> omega))
                      have e10 : Below w.heap.size w (w10.setCell ⟨w.heap.size, 0, none⟩ (.slice Av mv cv)) := ((e9.alloc (by omega) _).grown hgrow (by simp; omega) (fun k hk => by have := hOlt k hk; omega)).setCell (Nat.le_refl _) _
                      have L10 : Bk (w10.setCell ⟨w.heap.size, 0, none⟩ (.slice Av mv cv)) w.heap.size 25 #[.slice Av mv cv] := scan_box ((L2.drew.grown g9 (by omega)).alloc _) hgrow (fun e => b0 e.symm) _
                      have S10 : Bk (w10.setCell ⟨w.heap.size, 0, none⟩ (.slice Av mv cv)) (w.heap.size + 1) 28 #[.int .i64 0, .int .i64 0] := scan_spot ((S2.drew.grown g9 (by omega)).alloc _) hgrow (fun e => by have := hOlt _ e.symm; omega) _
                      have h10 : Rdr (w10.setCell ⟨w.heap.size, 0, none⟩ (.slice Av mv cv)) P A2 cap2 (itS s x) := scan_rdr (h9.alloc _) hgrow (fun g hg => by have := hOlt g hg; omega) (by omega) ((L2.drew.grown g9 (by omega)).alloc _) hvs.out _
                      have O10 := hO10.kept (gb_set (World.grownBy.refl w10 (some w.heap.size)) 0 (.slice Av mv cv)) (fun b hb => by cases hb; omega)
                      go_wp2_with fail
                      go_roundw
                      case rel => exact ⟨k + 1, itS s x, _, ps ++ [⟨N, BS⟩], by omega, by go_num, L10, S10, O10, h10, HFe.out, by rw [List.length_append, Hps.out]; rfl, HG.out, e10⟩
                      case measure => simp [intOf]; omega
                    exact AllReady.nil
                  exact AllReady.nil
                exact AllReady.nil
              exact AllReady.nil
            exact AllReady.nil
          exact AllReady.nil
        exact AllReady.nil
    · obtain rfl : k = len' := by omega
      rw [List.drop_of_length_le (by rw [HX.out]; exact Nat.le_refl _)] at hg
      unfold scanGo at hg
      clear hf
      obtain ⟨Av, mv, cv, rfl, hmv, _, _, _⟩ := hO.sl
      have HMv := Lib.hid hmv
      clear hmv
      by_cases hl : 0 < s.left
      · rw [if_pos hl] at hg
        subst hg
        have hov : s.over = ⟨s.xs, s.at_, s.at_, 3⟩ := by unfold RS.over; rw [if_pos hl, RS.fail_no Hf.out]
        have HOv := Lib.hid hov
        clear hov hl
        go_wp2_with fail
        refine (end_any hRd).mono ?_
        rintro e w8 ⟨rfl, h8, g8⟩
        rw [HOv.out] at h8
        go_wp2_with fail
        refine (goon_yes h8 (show (3 : Nat) ≠ 0 by decide)).mono ?_
        rintro e w9 ⟨rfl, rfl⟩
        exact scan_leave rfl rfl (hL.grown g8 (by omega)) (hS.grown g8 (by omega)) (hB.trans (gb_to_below (B := w.heap.size) g8 (by omega) (by omega)))
      · rw [if_neg hl] at hg
        subst hg
        have hov : s.over = s := by unfold RS.over; rw [if_neg hl]
        have HOv := Lib.hid hov
        clear hov hl
        go_wp2_with fail
        refine (end_any hRd).mono ?_
        rintro e w8 ⟨rfl, h8, g8⟩
        rw [HOv.out] at h8
        have L8 := hL.grown g8 (by omega)
        have S8 := hS.grown g8 (by omega)
        have B8 := hB.trans (gb_to_below (B := w.heap.size) g8 (by omega) (by omega))
        have O8 := hO.kept g8 (fun b hb => by cases hb; omega)
        have l0 := L8.c 0 _ rfl
        have lz := L8.fz 0
        have s0 := S8.c 0 _ rfl
        have s1 := S8.c 1 _ rfl
        have sz0 := S8.fz 0
        have sz1 := S8.fz 1
        go_wp2_with fail
        refine (goon_no h8 Hf.out).mono ?_
        rintro e w9 ⟨rfl, rfl⟩
        go_wp2_with fail
        refine leaves_cons (f := 36) (args := #[.pointer (some ⟨w.heap.size, 0, none⟩), .pointer (some ⟨w.heap.size + 1, 0, none⟩)]) (by simp) (by simp [go_sem]) ?_
        refine (catch_idle _ _ _).mono ?_
        rintro e u' w'' ⟨rfl, rfl, rfl⟩
        have L9 := ((L8.set 0 (.slice Av mv cv)).far (p := ⟨w.heap.size + 1, 0, none⟩) (by simp) (.int .i64 0)).far (p := ⟨w.heap.size + 1, 1, none⟩) (by simp) (.int .i64 0)
        have S9 := ((S8.far (p := ⟨w.heap.size, 0, none⟩) (by simp) (.slice Av mv cv)).set 0 (.int .i64 0)).set 1 (.int .i64 0)
        have O9 := (O8.kept (gb_set (World.grownBy.refl w8 (some w.heap.size)) 0 (.slice Av mv cv)) (fun b hb => by cases hb; omega)).kept (gb_set (gb_set (World.grownBy.refl _ (some (w.heap.size + 1))) 0 (.int .i64 0)) 1 (.int .i64 0)) (fun b hb => by cases hb; omega)
        exact ⟨_, rres2 rfl _ _ _ _ rfl rfl L9 S9, ((B8.setCell (Nat.le_refl _) _).setCell (Nat.le_succ _) _).setCell (Nat.le_succ _) _, _, rfl, O9.base_le (by omega)⟩
end Go.Proofs.Ytghocjigmcdobaa
