/-
  The contracts of the document's May and Scan.
-/
import Derived.Test.YtgcdjbhfphglfaaCScan
import Derived.Test.YtgcdjbhfphglfaaCMath
namespace Go.Proofs.Ytgcdjbhfphglfaa
open Go.RowKit Go.Lib

set_option maxRecDepth 100000 in
set_option maxHeartbeats 2000000 in
theorem rmay_any (k n : Int) (b : Bool) (w : World) :
    Calls Try.prog 39 #[.agg #[.int .i64 k, .int .i64 n, .bool b]] w (Boxes w (mayB k n)) := by
  by_cases h1 : k = 1
  · subst h1
    by_cases hn : 1 ≤ n
    · have e : mayB 1 n = decide (n ≤ 8) := by unfold mayB; congr 1; simp [hn]
      rw [e]
      clear e
      go_enter Try.func39, Try.ntmps39
      go_wp2
      go_ret
      exact ⟨rfl, (Below.refl _ _).alloc (Nat.le_refl _) _⟩
    · have e : mayB 1 n = false := decide_eq_false (by omega)
      rw [e]
      have hd : decide (1 ≤ n) = false := decide_eq_false hn
      clear e hn
      go_enter Try.func39, Try.ntmps39
      go_wp2
      go_ret
      exact ⟨rfl, (Below.refl _ _).alloc (Nat.le_refl _) _⟩
  · by_cases h2 : k = 2
    · subst h2
      have e : mayB 2 n = true := decide_eq_true (by omega)
      rw [e]
      clear e h1
      go_enter Try.func39, Try.ntmps39
      go_wp2
      go_ret
      exact ⟨rfl, (Below.refl _ _).alloc (Nat.le_refl _) _⟩
    · by_cases h3 : k = 3
      · subst h3
        have e : mayB 3 n = decide (0 ≤ n) := by unfold mayB; congr 1; simp
        rw [e]
        clear e h1 h2
        go_enter Try.func39, Try.ntmps39
        go_wp2
        go_ret
        exact ⟨rfl, (Below.refl _ _).alloc (Nat.le_refl _) _⟩
      · by_cases h4 : k = 4
        · subst h4
          have e : mayB 4 n = decide (0 ≤ n) := by unfold mayB; congr 1; simp
          rw [e]
          clear e h1 h2 h3
          go_enter Try.func39, Try.ntmps39
          go_wp2
          go_ret
          exact ⟨rfl, (Below.refl _ _).alloc (Nat.le_refl _) _⟩
        · have e : mayB k n = false := decide_eq_false (by omega)
          rw [e]
          have b1 : (k == 1) = false := beq_eq_false_iff_ne.2 h1
          have b2 : (k == 2) = false := beq_eq_false_iff_ne.2 h2
          have b3 : (k == 3) = false := beq_eq_false_iff_ne.2 h3
          have b4 : (k == 4) = false := beq_eq_false_iff_ne.2 h4
          clear e h1 h2 h3 h4
          go_enter Try.func39, Try.ntmps39
          go_wp2
          go_ret
          exact ⟨rfl, (Below.refl _ _).alloc (Nat.le_refl _) _⟩

theorem itS_xs (s : RS) (x : It) : (itS s x).xs = s.xs := by
  unfold itS
  split
  · unfold RS.num; split; exact RS.next_xs _ _; exact RS.fail_xs _ _
  · split
    · rw [RS.next_xs, RS.look_xs]
    · split
      · unfold RS.take; split; exact RS.fail_xs _ _; exact RS.next_xs _ _
      · unfold RS.text
        split
        · split
          · rfl
          · split <;> rfl
        · exact RS.look_xs s

/-- Ask, of an item that may be. -/
theorem rask_item {w : World} {A : Option Addr} {cap : Nat} {s : RS} (h : RMay w A cap s) (hf : s.fe = 0) (x : It) (hx : mayB x.k x.n = true) (hz1 : x.n ≤ 9223372036854775807) :
    Calls Try.prog 24 #[rvOf A cap s, .int .i64 x.k, .int .i64 x.n, .bool x.b] w (RGave w A cap (itS s x) (itN s x) (itBs s x)) := by
  obtain ⟨k, n, b⟩ := x
  change mayB k n = true at hx
  change n ≤ _ at hz1
  rcases mayB_yes hx with ⟨rfl, h1, h8⟩ | rfl | ⟨rfl, h0⟩ | ⟨rfl, h0⟩
  · exact rask_num h hf n b
  · exact rask_var h hf n b
  · exact rask_take h hf n b
  · exact rask_text h hf n (by omega) hz1 b

theorem RS.next_in {s : RS} (hf : s.fe = 0) (hat : s.at_ ≤ s.xs.length) (n : Nat) : (s.next n).fe = 0 ∨ (s.next n).fa ≤ s.xs.length := by
  unfold RS.next
  rw [if_pos hf]
  split
  · exact .inr hat
  · exact .inl hf
theorem RS.fail_in {s : RS} (hf : s.fe = 0) (hat : s.at_ ≤ s.xs.length) (e : Nat) : (s.fail e).fe = 0 ∨ (s.fail e).fa ≤ s.xs.length := by
  rw [RS.fail_no hf]
  exact .inr hat
theorem item_in {s : RS} (x : It) (hf : s.fe = 0) (hat : s.at_ ≤ s.xs.length) : (itS s x).fe = 0 ∨ (itS s x).fa ≤ s.xs.length := by
  unfold itS
  split
  · unfold RS.num
    split
    · exact RS.next_in hf hat _
    · exact RS.fail_in hf hat _
  · split
    · by_cases h0 : s.got.e = 0
      · rw [(RS.look_0 hf h0).1]
        exact RS.next_in hf hat _
      · rw [(RS.look_1 hf h0).1]
        unfold RS.next
        rw [if_neg h0]
        exact .inr hat
    · split
      · unfold RS.take
        split
        · exact RS.fail_in hf hat _
        · exact RS.next_in hf hat _
      · unfold RS.text
        split
        · split
          · exact .inr hat
          · split
            · exact .inr hat
            · exact .inl hf
        · by_cases h0 : s.got.e = 0
          · rw [(RS.look_0 hf h0).1]
            exact .inl hf
          · rw [(RS.look_1 hf h0).1]
            exact .inr hat
theorem scan_at : ∀ (xs : List It) (s : RS) (acc : List Pc) (a e0 : Nat), s.fe = 0 → s.at_ ≤ s.xs.length → scanGo s xs acc = .bad a e0 → a ≤ s.xs.length
  | [], s, acc, a, e0, hf, hat, h => by
    unfold scanGo at h
    by_cases hl : 0 < s.left
    · rw [if_pos hl] at h; cases h; exact hat
    · rw [if_neg hl] at h; cases h
  | x :: xs, s, acc, a, e0, hf, hat, h => by
    unfold scanGo at h
    by_cases hm : mayB x.k x.n = true
    · rw [if_pos hm] at h
      by_cases ht : (itS s x).fe = 0
      · rw [if_pos ht] at h
        have := scan_at xs (itS s x) _ a e0 ht (by rw [itS_xs]; exact (item_back hm hf hat ht).2.2.1) h
        rwa [itS_xs] at this
      · rw [if_neg ht] at h
        cases h
        exact (item_in x hf hat).resolve_left ht
    · rw [if_neg hm] at h; cases h; exact hat

/-- What a round of Scan reads: the reader's box, the item. -/
def SJ (I b o : Nat) (A : Option Addr) (len cap a f e : Nat) (x : It) (w' : World) : Prop :=
  w'.cell? ⟨I, 0, none⟩ = some (.slice A len cap) ∧ w'.cell? ⟨I, 1, none⟩ = some (.int .i64 (a : Int)) ∧ w'.cell? ⟨I, 2, none⟩ = some (.int .i64 (f : Int)) ∧ w'.cell? ⟨I, 3, none⟩ = some (.int .i64 (e : Int)) ∧
    w'.cell? ⟨b, o, none⟩ = some (.int .i64 x.k) ∧ w'.cell? ⟨b, o + 1, none⟩ = some (.int .i64 x.n) ∧ w'.cell? ⟨b, o + 2, none⟩ = some (.bool x.b)
theorem SJ.of {I b o : Nat} {A : Option Addr} {len cap a f e : Nat} {x : It} {w w' : World} (h : SJ I b o A len cap a f e x w) (hI : w'.heap[I]? = w.heap[I]?) (hb : w'.heap[b]? = w.heap[b]?) : SJ I b o A len cap a f e x w' :=
  ⟨(World.cell?_of_block hI).trans h.1, (World.cell?_of_block hI).trans h.2.1, (World.cell?_of_block hI).trans h.2.2.1, (World.cell?_of_block hI).trans h.2.2.2.1, (World.cell?_of_block hb).trans h.2.2.2.2.1, (World.cell?_of_block hb).trans h.2.2.2.2.2.1, (World.cell?_of_block hb).trans h.2.2.2.2.2.2⟩
theorem SJ.below {I b o : Nat} {A : Option Addr} {len cap a f e : Nat} {x : It} {w w' : World} {B : Nat} (h : SJ I b o A len cap a f e x w) (hb : Below B w w') (hI : I < B) (hbb : b < B) : SJ I b o A len cap a f e x w' := h.of (hb.block I hI) (hb.block b hbb)

/-- A struct in a cell beside a value: the results. -/
theorem rres3 {fn : Func} (h : fn.results = #[.tmp 4, .cell 5 28]) (tmps : Array Value) (w : World) (b : Nat) (hp : tmps.getD 5 undef = .pointer (some ⟨b, 0, none⟩)) {u0 u1 : Value} (hb : Bk w b 28 #[u0, u1]) :
    (results fn tmps).run Try.prog w = .ok (.tuple #[tmps.getD 4 undef, .agg #[u0, u1]]) w := by
  have c0 := hb.c 0 _ rfl
  have c1 := hb.c 1 _ rfl
  have hp' : tmps[5]?.getD undef = .pointer (some ⟨b, 0, none⟩) := by simpa using hp
  simp [results, h, hp', go_sem, c0, c1]

set_option maxRecDepth 100000 in
set_option maxHeartbeats 4000000 in
theorem rscan_any (A : Option Addr) (len cap : Nat) (bs : List UInt8) (A' : Option Addr) (len' cap' : Nat) (xs : List It) (hlen : len ≤ 100000) (hlen' : len' ≤ 1000) (hcap : len ≤ cap) (hcm : cap ≤ maxLen) (hxs : ∀ x ∈ xs, -9223372036854775808 ≤ x.n ∧ x.n ≤ 9223372036854775807) (w : World)
    (hI : Rd w w.heap.size A len bs) (hJ : PlanAt w w.heap.size A' len' xs) :
    Calls Try.prog 12 #[.slice A len cap, .slice A' len' cap'] w (ScanGave w (scanGo ⟨bs, 0, 0, 0⟩ xs [])) := by
  have HX := Lib.hid hJ.size
  obtain rfl : bs.length = len := hI.len
  obtain ⟨R, hR⟩ : ∃ R, scanGo ⟨bs, 0, 0, 0⟩ xs [] = R := ⟨_, rfl⟩
  rw [hR]
  have HR := Lib.hid hR
  have HQ := Lib.hid hxs
  have S0 := (Bk.new w 28 #[.int .i64 0, .int .i64 0]).alloc (.cells #[.slice A bs.length cap, .int .i64 0, .int .i64 0, .int .i64 0] 46)
  have T0 := Bk.new (w.alloc (.cells #[.int .i64 0, .int .i64 0] 28)) 46 #[.slice A bs.length cap, .int .i64 0, .int .i64 0, .int .i64 0]
  rw [World.size_alloc] at T0
  have hB2 : Below w.heap.size w ((w.alloc (.cells #[.int .i64 0, .int .i64 0] 28)).alloc (.cells #[.slice A bs.length cap, .int .i64 0, .int .i64 0, .int .i64 0] 46)) := ((Below.refl _ _).alloc (Nat.le_refl _) _).alloc (by simp) _
  clear hR hxs
  go_enter Try.func12, Try.ntmps12
  go_wp2_with fail
  go_loopw [7, 8] (fun u i wr => ∃ (k a f : Nat) (ps : List Pc), k ≤ len' ∧ i = .int .i64 (k : Int) ∧ a ≤ bs.length ∧ Bk wr w.heap.size 28 #[.int .i64 0, .int .i64 0] ∧ Bk wr (w.heap.size + 1) 46 #[.slice A bs.length cap, .int .i64 (a : Int), .int .i64 (f : Int), .int .i64 0] ∧ OwnP wr (w.heap.size + 2) u ps ∧ ps.length = k ∧ scanGo ⟨bs, a, f, 0⟩ (xs.drop k) ps = R ∧ Below w.heap.size w wr)
    (fun _ i _ => len' - (intOf i).toNat)
  case atStart => exact ⟨0, 0, 0, [], Nat.zero_le _, rfl, Nat.zero_le _, S0, T0, OwnP.nil_ _ _, rfl, HR.out, hB2⟩
  case round =>
    obtain ⟨k, a, f, ps, hk, rfl, ha, hS, hT, hO, hps, hg, hB⟩ := hrel
    have hsz := hB.size
    have hTl := hT.lt
    have Hps := Lib.hid hps
    clear hps
    by_cases hlt : k < len'
    · have hlt' : (k : Int) < (len' : Int) := by omega
      have hk0 : (0 : Int) ≤ (k : Int) := by omega
      obtain ⟨b, off, rfl, hb, hcx⟩ := hJ.2 (by omega)
      obtain ⟨x, hx⟩ : ∃ x, xs[k]? = some x := ⟨_, List.getElem?_eq_getElem (by rw [HX.out]; exact hlt)⟩
      obtain ⟨x0, x1, x2⟩ := hcx k x hx
      rw [← hB.cell hb] at x0 x1 x2
      have hxn := HQ.out x (List.mem_of_getElem? hx)
      have hdx : xs.drop k = x :: xs.drop (k + 1) := by
        have h1 := List.getElem?_eq_some_iff.1 hx
        rw [← h1.2]; exact List.drop_eq_getElem_cons h1.1
      rw [hdx] at hg
      unfold scanGo at hg
      have hIr := hI.below hB
      clear hdx hx hcx hJ hI
      cases hm : mayB x.k x.n with
      | false =>
        have HM := Lib.hid (fun W => hm ▸ rmay_any x.k x.n x.b W)
        rw [hm, if_neg (by simp)] at hg
        subst hg
        clear hm hO
        go_wp2_with fail
        refine (HM.out _).mono ?_
        rintro e w1 ⟨rfl, hb2⟩
        have T1 := hT.below hb2
        have S1 := hS.below hb2
        have c1 := T1.c 1 _ rfl
        have s0 := S1.c 0 _ rfl
        have s1 := S1.c 1 _ rfl
        have sz0 := S1.fz 0
        have sz1 := S1.fz 1
        go_wp2_with fail
        go_region
        go_wp2_with fail
        refine bodyPost_ret (v := .tuple #[.slice none 0 0, .agg #[.int .i64 (a : Int), .int .i64 1]]) (rres3 rfl _ _ w.heap.size rfl ((S1.set 0 (.int .i64 (a : Int))).set 1 (.int .i64 1)).drew) rfl ?_
        exact ⟨(((hB.trans (hb2.mono hsz)).setCell (Nat.le_refl _) _).setCell (Nat.le_refl _) _).drew, rfl⟩
      | true =>
        have HM := Lib.hid (fun W => hm ▸ rmay_any x.k x.n x.b W)
        rw [hm, if_pos rfl] at hg
        obtain ⟨S', hS'⟩ : ∃ S', itS ⟨bs, a, f, 0⟩ x = S' := ⟨_, rfl⟩
        obtain ⟨N, hN⟩ : ∃ N, itN ⟨bs, a, f, 0⟩ x = N := ⟨_, rfl⟩
        obtain ⟨BS, hBS⟩ : ∃ BS, itBs ⟨bs, a, f, 0⟩ x = BS := ⟨_, rfl⟩
        have hxs' : S'.xs = bs := by rw [← hS']; exact itS_xs _ x
        have hle' : S'.fe = 0 → S'.at_ ≤ bs.length := fun h0 => by
          have := (item_back (s := ⟨bs, a, f, 0⟩) hm rfl ha (by rw [hS']; exact h0)).2.2.1
          rwa [hS'] at this
        have hask : ∀ W, RMay W A cap ⟨bs, a, f, 0⟩ → Calls Try.prog 24 #[.agg #[.slice A bs.length cap, .int .i64 (a : Int), .int .i64 (f : Int), .int .i64 0], .int .i64 x.k, .int .i64 x.n, .bool x.b] W (fun e w' => ∃ v, e = .returned (.tuple #[.agg #[.slice A bs.length cap, .int .i64 (S'.at_ : Int), .int .i64 (S'.fa : Int), .int .i64 (S'.fe : Int)], .int .u64 (N : Int), v]) ∧ Own8 w' W.heap.size v BS ∧ Below W.heap.size W w') := fun W h => by
          have h1 := rask_item h rfl x hm hxn.2
          rw [hS', hN, hBS] at h1
          unfold RGave rvOf at h1
          rw [hxs'] at h1
          exact h1
        rw [hS', hN, hBS] at hg
        clear hS' hN hBS
        obtain ⟨ys, a', f', e'⟩ := S'
        change ys = bs at hxs'
        subst hxs'
        change e' = 0 → a' ≤ ys.length at hle'
        have HA := Lib.hid hask
        have HG := Lib.hid hg
        have HL := Lib.hid hle'
        obtain ⟨Av, mv, cv, rfl, hmv, hcv, hdv, hrv⟩ := hO.sl
        have HMv := Lib.hid hmv
        clear hask hg hle' hm hmv hcv hdv hrv
        have hOlt := hO.lt
        go_wp2_with fail
        refine (HM.out _).mono ?_
        rintro e w1 ⟨rfl, hb2⟩
        have hB1 := hB.trans (hb2.mono hsz)
        have z1 : wr.heap.size ≤ w1.heap.size := hb2.size
        have T1 := hT.below hb2
        have S1 := hS.below hb2
        have hR0 : RMay w1 A cap ⟨ys, a, f, 0⟩ := ⟨(hIr.below (hb2.mono hsz)).more (by omega), ha, hlen, hcap, hcm⟩
        have hR1 : RMay w1.drew A cap ⟨ys, a, f, 0⟩ := ⟨hR0.rd.drew, ha, hlen, hcap, hcm⟩
        have K0 : SJ (w.heap.size + 1) b (off + k * 3) A ys.length cap a f 0 x w1 := ⟨T1.c 0 _ rfl, T1.c 1 _ rfl, T1.c 2 _ rfl, T1.c 3 _ rfl, by rw [hb2.cell (show b < wr.heap.size by omega)]; exact x0, by rw [hb2.cell (show b < wr.heap.size by omega)]; exact x1, by rw [hb2.cell (show b < wr.heap.size by omega)]; exact x2⟩
        have K0d : SJ (w.heap.size + 1) b (off + k * 3) A ys.length cap a f 0 x w1.drew := K0
        clear x0 x1 x2
        have K0a : SJ (w.heap.size + 1) b (off + k * 3) A ys.length cap a f 0 x (w1.alloc (.cells #[.slice none 0 0, .int .i64 0, .int .i64 0, .int .i64 0] 46)).drew := K0.below (B := w1.heap.size) (((Below.refl _ w1).alloc (Nat.le_refl _) _).drew) (by omega) (by omega)
        have hR2 : RMay (w1.alloc (.cells #[.slice none 0 0, .int .i64 0, .int .i64 0, .int .i64 0] 46)).drew A cap ⟨ys, a, f, 0⟩ := ⟨((hR0.rd.alloc (Nat.le_refl _) _).more (by simp)).drew, ha, hlen, hcap, hcm⟩
        obtain ⟨x0, x1, x2, x3, x4, x5, x6⟩ := id K0
        go_wp2_with fail
        go_region_held3 (fun w' => w'.cell? ⟨w.heap.size + 1, 0, none⟩ = some (.slice A ys.length cap) ∧ w'.cell? ⟨w.heap.size + 1, 1, none⟩ = some (.int .i64 (a : Int)) ∧ w'.cell? ⟨w.heap.size + 1, 2, none⟩ = some (.int .i64 (f : Int)) ∧ w'.cell? ⟨w.heap.size + 1, 3, none⟩ = some (.int .i64 0) ∧ w'.cell? ⟨b, off + k * 3, none⟩ = some (.int .i64 x.k) ∧ w'.cell? ⟨b, off + k * 3 + 1, none⟩ = some (.int .i64 x.n) ∧ w'.cell? ⟨b, off + k * 3 + 2, none⟩ = some (.bool x.b))
          (first
            | exact K0d
            | exact K0a
            | exact K9
            | (refine SJ.below (B := w1.heap.size) K9 ?_ (by omega) (by omega); repeat (first | exact Below.refl _ _ | (refine Below.drew ?_) | (refine Below.setCell ?_ (by first | exact Nat.le_refl _ | exact z9) _) | (refine Below.alloc ?_ (by first | exact Nat.le_refl _ | exact z9) _)))
            | fail)
          (first
            | (go_at_call 24; refine (HA.out w1.drew hR1).mono ?_; rintro e w2 ⟨v, rfl, hv, hb3⟩; obtain ⟨A9, m9, c9, rfl, hm9, hc9, hd9, hr9⟩ := hv.sl; have HM9 := Lib.hid hm9; clear hm9 hc9 hd9 hr9; have z9 : w1.heap.size ≤ w2.heap.size := (by have := hb3.size; simpa using this); have K9 := K0d.below hb3 (by simp <;> omega) (by simp <;> omega))
            | (go_at_call 24; refine (HA.out (w1.alloc (.cells #[.slice none 0 0, .int .i64 0, .int .i64 0, .int .i64 0] 46)).drew hR2).mono ?_; rintro e w2 ⟨v, rfl, hv, hb3⟩; obtain ⟨A9, m9, c9, rfl, hm9, hc9, hd9, hr9⟩ := hv.sl; have HM9 := Lib.hid hm9; clear hm9 hc9 hd9 hr9; have z9 : w1.heap.size ≤ w2.heap.size := (by have := hb3.size; simp at this; omega); have K9 := K0a.below hb3 (by simp <;> omega) (by simp <;> omega); have D9 := (Bk.new w1 46 #[.slice none 0 0, .int .i64 0, .int .i64 0, .int .i64 0]).drew.below hb3; have d0 := D9.c 0 _ rfl; have d1 := D9.c 1 _ rfl; have d2 := D9.c 2 _ rfl; have d3 := D9.c 3 _ rfl; have y0 := D9.fz 0; have y1 := D9.fz 1; have y2 := D9.fz 2; have y3 := D9.fz 3))
        · have hD : Bk (w2.alloc (.cells #[.slice A ys.length cap, .int .i64 (a' : Int), .int .i64 (f' : Int), .int .i64 (e' : Int)] 46)) w2.heap.size 46 #[.slice A ys.length cap, .int .i64 (a' : Int), .int .i64 (f' : Int), .int .i64 (e' : Int)] := Bk.new _ _ _
          have hDl : w1.heap.size ≤ w2.heap.size := z9
          have hWb : Below w1.heap.size w1 (w2.alloc (.cells #[.slice A ys.length cap, .int .i64 (a' : Int), .int .i64 (f' : Int), .int .i64 (e' : Int)] 46)) := (((Below.refl _ w1).drew).trans (hb3.mono (by simp))).alloc z9 _
          have hvW : Own8 (w2.alloc (.cells #[.slice A ys.length cap, .int .i64 (a' : Int), .int .i64 (f' : Int), .int .i64 (e' : Int)] 46)) w1.heap.size (.slice A9 m9 c9) BS := (hv.base_le (by simp)).alloc _
          clear hv hb3 K9
          generalize (w2.alloc (.cells #[.slice A ys.length cap, .int .i64 (a' : Int), .int .i64 (f' : Int), .int .i64 (e' : Int)] 46)) = W at hD hWb hvW ⊢
          generalize w2.heap.size = D at hD hDl ⊢
          have S2 := S1.below hWb
          have T2 := T1.below hWb
          have hWs : w1.heap.size ≤ W.heap.size := hWb.size
          have hBW : Below w.heap.size w W := hB1.trans (hWb.mono (by omega))
          have OW : OwnP W (w.heap.size + 2) (.slice Av mv cv) ps := (hO.below hb2).below hWb
          have d0 := hD.c 0 _ rfl
          have d1 := hD.c 1 _ rfl
          have d2 := hD.c 2 _ rfl
          have d3 := hD.c 3 _ rfl
          have g0 := T2.c 0 _ rfl
          have g1 := T2.c 1 _ rfl
          have g2 := T2.c 2 _ rfl
          have g3 := T2.c 3 _ rfl
          have gz0 := T2.fz 0
          have gz1 := T2.fz 1
          have gz2 := T2.fz 2
          have gz3 := T2.fz 3
          have T3 : Bk ((((W.setCell ⟨w.heap.size + 1, 0, none⟩ (.slice A ys.length cap)).setCell ⟨w.heap.size + 1, 1, none⟩ (.int .i64 (a' : Int))).setCell ⟨w.heap.size + 1, 2, none⟩ (.int .i64 (f' : Int))).setCell ⟨w.heap.size + 1, 3, none⟩ (.int .i64 (e' : Int))) (w.heap.size + 1) 46 #[.slice A ys.length cap, .int .i64 (a' : Int), .int .i64 (f' : Int), .int .i64 (e' : Int)] := (((T2.set 0 (.slice A ys.length cap)).set 1 (.int .i64 (a' : Int))).set 2 (.int .i64 (f' : Int))).set 3 (.int .i64 (e' : Int))
          have S3 : Bk ((((W.setCell ⟨w.heap.size + 1, 0, none⟩ (.slice A ys.length cap)).setCell ⟨w.heap.size + 1, 1, none⟩ (.int .i64 (a' : Int))).setCell ⟨w.heap.size + 1, 2, none⟩ (.int .i64 (f' : Int))).setCell ⟨w.heap.size + 1, 3, none⟩ (.int .i64 (e' : Int))) w.heap.size 28 #[.int .i64 0, .int .i64 0] := (((S2.far (p := ⟨w.heap.size + 1, 0, none⟩) (by simp) (.slice A ys.length cap)).far (p := ⟨w.heap.size + 1, 1, none⟩) (by simp) (.int .i64 (a' : Int))).far (p := ⟨w.heap.size + 1, 2, none⟩) (by simp) (.int .i64 (f' : Int))).far (p := ⟨w.heap.size + 1, 3, none⟩) (by simp) (.int .i64 (e' : Int))
          have hg3 : W.grownBy ((((W.setCell ⟨w.heap.size + 1, 0, none⟩ (.slice A ys.length cap)).setCell ⟨w.heap.size + 1, 1, none⟩ (.int .i64 (a' : Int))).setCell ⟨w.heap.size + 1, 2, none⟩ (.int .i64 (f' : Int))).setCell ⟨w.heap.size + 1, 3, none⟩ (.int .i64 (e' : Int))) (some (w.heap.size + 1)) := gb_set (gb_set (gb_set (gb_set (World.grownBy.refl W (some (w.heap.size + 1))) 0 (.slice A ys.length cap)) 1 (.int .i64 (a' : Int))) 2 (.int .i64 (f' : Int))) 3 (.int .i64 (e' : Int))
          have hBW3 : Below w.heap.size w ((((W.setCell ⟨w.heap.size + 1, 0, none⟩ (.slice A ys.length cap)).setCell ⟨w.heap.size + 1, 1, none⟩ (.int .i64 (a' : Int))).setCell ⟨w.heap.size + 1, 2, none⟩ (.int .i64 (f' : Int))).setCell ⟨w.heap.size + 1, 3, none⟩ (.int .i64 (e' : Int))) := (((hBW.setCell (Nat.le_succ _) _).setCell (Nat.le_succ _) _).setCell (Nat.le_succ _) _).setCell (Nat.le_succ _) _
          by_cases he : e' = 0
          · have be : ((e' : Int) != 0) = false := by simp [he]
            have be' : (e' != 0) = false := by simp [he]
            have hg := HG.out
            rw [if_pos he] at hg
            have HG2 := Lib.hid hg
            have HE := Lib.hid he
            have O3 := OW.kept hg3 (fun b hb => by cases hb; omega)
            have V3 := hvW.low (b := w.heap.size + 1) hg3 (by omega)
            have V4 := (V3.base_le (base' := w.heap.size + 2) (by omega)).alloc (.cells #[.int .u64 (N : Int), .slice A9 m9 c9] 70)
            have O4 := O3.below ((Below.refl _ ((((W.setCell ⟨w.heap.size + 1, 0, none⟩ (.slice A ys.length cap)).setCell ⟨w.heap.size + 1, 1, none⟩ (.int .i64 (a' : Int))).setCell ⟨w.heap.size + 1, 2, none⟩ (.int .i64 (f' : Int))).setCell ⟨w.heap.size + 1, 3, none⟩ (.int .i64 (e' : Int)))).alloc (Nat.le_refl _) (.cells #[.int .u64 (N : Int), .slice A9 m9 c9] 70))
            have G4 : Bk (((((W.setCell ⟨w.heap.size + 1, 0, none⟩ (.slice A ys.length cap)).setCell ⟨w.heap.size + 1, 1, none⟩ (.int .i64 (a' : Int))).setCell ⟨w.heap.size + 1, 2, none⟩ (.int .i64 (f' : Int))).setCell ⟨w.heap.size + 1, 3, none⟩ (.int .i64 (e' : Int))).alloc (.cells #[.int .u64 (N : Int), .slice A9 m9 c9] 70)) W.heap.size 70 #[.int .u64 (N : Int), .slice A9 m9 c9] := by
              have h := Bk.new ((((W.setCell ⟨w.heap.size + 1, 0, none⟩ (.slice A ys.length cap)).setCell ⟨w.heap.size + 1, 1, none⟩ (.int .i64 (a' : Int))).setCell ⟨w.heap.size + 1, 2, none⟩ (.int .i64 (f' : Int))).setCell ⟨w.heap.size + 1, 3, none⟩ (.int .i64 (e' : Int))) 70 #[.int .u64 (N : Int), .slice A9 m9 c9]
              simp only [World.size_setCell] at h
              exact h
            have S4 := S3.alloc (.cells #[.int .u64 (N : Int), .slice A9 m9 c9] 70)
            have T4 := T3.alloc (.cells #[.int .u64 (N : Int), .slice A9 m9 c9] 70)
            have hne := own_ne V3 (fun g hg => by have := hOlt g hg; omega)
            have hBW4 := hBW3.alloc (by simp <;> omega) (.cells #[.int .u64 (N : Int), .slice A9 m9 c9] 70)
            clear he hg
            go_wp2_with (at_builtin; refine wpList_appendP rfl _ _ rfl (w.heap.size + 2) (.slice Av mv cv) ps ⟨N, BS⟩ (.slice A9 m9 c9) (by rfl) W.heap.size (by rfl) V4 hne O4 (by have := Hps.out; omega) (by simp <;> omega) G4 ?_; intro v' w10 hO10 hgrow hob)
            have S5 : Bk w10 w.heap.size 28 #[.int .i64 0, .int .i64 0] := (hgrow.block _ S4.lt (fun e => by have := hOlt _ e.symm; omega)).trans S4
            have T5 : Bk w10 (w.heap.size + 1) 46 #[.slice A ys.length cap, .int .i64 (a' : Int), .int .i64 (f' : Int), .int .i64 (e' : Int)] := (hgrow.block _ T4.lt (fun e => by have := hOlt _ e.symm; omega)).trans T4
            have B5 : Below w.heap.size w w10 := hBW4.grown hgrow (by simp <;> omega) (fun g hg => by have := hOlt g hg; omega)
            have he := HE.out
            subst he
            go_roundw
            case rel => exact ⟨k + 1, a', f', ps ++ [⟨N, BS⟩], by omega, by go_num, HL.out rfl, S5, T5, hO10, by rw [List.length_append, Hps.out]; rfl, HG2.out, B5⟩
            case measure => simp [intOf]; omega
          · have be : ((e' : Int) != 0) = true := bne_iff_ne.2 (by omega)
            have be' : (e' != 0) = true := bne_iff_ne.2 he
            have hg := HG.out
            rw [if_neg he] at hg
            subst hg
            have t2 : ((((W.setCell ⟨w.heap.size + 1, 0, none⟩ (.slice A ys.length cap)).setCell ⟨w.heap.size + 1, 1, none⟩ (.int .i64 (a' : Int))).setCell ⟨w.heap.size + 1, 2, none⟩ (.int .i64 (f' : Int))).setCell ⟨w.heap.size + 1, 3, none⟩ (.int .i64 (e' : Int))).cell? ⟨w.heap.size + 1, 2, none⟩ = some (.int .i64 (f' : Int)) := T3.c 2 _ rfl
            have t3 : ((((W.setCell ⟨w.heap.size + 1, 0, none⟩ (.slice A ys.length cap)).setCell ⟨w.heap.size + 1, 1, none⟩ (.int .i64 (a' : Int))).setCell ⟨w.heap.size + 1, 2, none⟩ (.int .i64 (f' : Int))).setCell ⟨w.heap.size + 1, 3, none⟩ (.int .i64 (e' : Int))).cell? ⟨w.heap.size + 1, 3, none⟩ = some (.int .i64 (e' : Int)) := T3.c 3 _ rfl
            have u0 : ((((W.setCell ⟨w.heap.size + 1, 0, none⟩ (.slice A ys.length cap)).setCell ⟨w.heap.size + 1, 1, none⟩ (.int .i64 (a' : Int))).setCell ⟨w.heap.size + 1, 2, none⟩ (.int .i64 (f' : Int))).setCell ⟨w.heap.size + 1, 3, none⟩ (.int .i64 (e' : Int))).cell? ⟨w.heap.size, 0, none⟩ = some (.int .i64 0) := S3.c 0 _ rfl
            have u1 : ((((W.setCell ⟨w.heap.size + 1, 0, none⟩ (.slice A ys.length cap)).setCell ⟨w.heap.size + 1, 1, none⟩ (.int .i64 (a' : Int))).setCell ⟨w.heap.size + 1, 2, none⟩ (.int .i64 (f' : Int))).setCell ⟨w.heap.size + 1, 3, none⟩ (.int .i64 (e' : Int))).cell? ⟨w.heap.size, 1, none⟩ = some (.int .i64 0) := S3.c 1 _ rfl
            have uz0 := S3.fz 0
            have uz1 := S3.fz 1
            clear he
            go_wp2_with fail
            go_region
            go_wp2_with fail
            refine bodyPost_ret (v := .tuple #[.slice none 0 0, .agg #[.int .i64 (f' : Int), .int .i64 (e' : Int)]]) (rres3 rfl _ _ w.heap.size rfl ((S3.set 0 (.int .i64 (f' : Int))).set 1 (.int .i64 (e' : Int))).drew) rfl ?_
            exact ⟨((hBW3.setCell (Nat.le_refl _) _).setCell (Nat.le_refl _) _).drew, rfl⟩
        · have hD : Bk ((((w2.setCell ⟨w1.heap.size, 0, none⟩ (.slice A ys.length cap)).setCell ⟨w1.heap.size, 1, none⟩ (.int .i64 (a' : Int))).setCell ⟨w1.heap.size, 2, none⟩ (.int .i64 (f' : Int))).setCell ⟨w1.heap.size, 3, none⟩ (.int .i64 (e' : Int))) w1.heap.size 46 #[.slice A ys.length cap, .int .i64 (a' : Int), .int .i64 (f' : Int), .int .i64 (e' : Int)] := (((D9.set 0 (.slice A ys.length cap)).set 1 (.int .i64 (a' : Int))).set 2 (.int .i64 (f' : Int))).set 3 (.int .i64 (e' : Int))
          have hDl : w1.heap.size ≤ w1.heap.size := Nat.le_refl _
          have hWb : Below w1.heap.size w1 ((((w2.setCell ⟨w1.heap.size, 0, none⟩ (.slice A ys.length cap)).setCell ⟨w1.heap.size, 1, none⟩ (.int .i64 (a' : Int))).setCell ⟨w1.heap.size, 2, none⟩ (.int .i64 (f' : Int))).setCell ⟨w1.heap.size, 3, none⟩ (.int .i64 (e' : Int))) := ((((((((Below.refl _ w1).alloc (Nat.le_refl _) _).drew).trans (hb3.mono (by simp))).setCell (Nat.le_refl _) _).setCell (Nat.le_refl _) _).setCell (Nat.le_refl _) _).setCell (Nat.le_refl _) _)
          have hvW : Own8 ((((w2.setCell ⟨w1.heap.size, 0, none⟩ (.slice A ys.length cap)).setCell ⟨w1.heap.size, 1, none⟩ (.int .i64 (a' : Int))).setCell ⟨w1.heap.size, 2, none⟩ (.int .i64 (f' : Int))).setCell ⟨w1.heap.size, 3, none⟩ (.int .i64 (e' : Int))) w1.heap.size (.slice A9 m9 c9) BS := (hv.low (b := w1.heap.size) (gb_set (gb_set (gb_set (gb_set (World.grownBy.refl w2 (some w1.heap.size)) 0 (.slice A ys.length cap)) 1 (.int .i64 (a' : Int))) 2 (.int .i64 (f' : Int))) 3 (.int .i64 (e' : Int))) (by simp)).base_le (by simp)
          clear hv hb3 K9 D9 d0 d1 d2 d3 y0 y1 y2 y3
          generalize ((((w2.setCell ⟨w1.heap.size, 0, none⟩ (.slice A ys.length cap)).setCell ⟨w1.heap.size, 1, none⟩ (.int .i64 (a' : Int))).setCell ⟨w1.heap.size, 2, none⟩ (.int .i64 (f' : Int))).setCell ⟨w1.heap.size, 3, none⟩ (.int .i64 (e' : Int))) = W at hD hWb hvW ⊢
          have S2 := S1.below hWb
          have T2 := T1.below hWb
          have hWs : w1.heap.size ≤ W.heap.size := hWb.size
          have hBW : Below w.heap.size w W := hB1.trans (hWb.mono (by omega))
          have OW : OwnP W (w.heap.size + 2) (.slice Av mv cv) ps := (hO.below hb2).below hWb
          have d0 := hD.c 0 _ rfl
          have d1 := hD.c 1 _ rfl
          have d2 := hD.c 2 _ rfl
          have d3 := hD.c 3 _ rfl
          have g0 := T2.c 0 _ rfl
          have g1 := T2.c 1 _ rfl
          have g2 := T2.c 2 _ rfl
          have g3 := T2.c 3 _ rfl
          have gz0 := T2.fz 0
          have gz1 := T2.fz 1
          have gz2 := T2.fz 2
          have gz3 := T2.fz 3
          have T3 : Bk ((((W.setCell ⟨w.heap.size + 1, 0, none⟩ (.slice A ys.length cap)).setCell ⟨w.heap.size + 1, 1, none⟩ (.int .i64 (a' : Int))).setCell ⟨w.heap.size + 1, 2, none⟩ (.int .i64 (f' : Int))).setCell ⟨w.heap.size + 1, 3, none⟩ (.int .i64 (e' : Int))) (w.heap.size + 1) 46 #[.slice A ys.length cap, .int .i64 (a' : Int), .int .i64 (f' : Int), .int .i64 (e' : Int)] := (((T2.set 0 (.slice A ys.length cap)).set 1 (.int .i64 (a' : Int))).set 2 (.int .i64 (f' : Int))).set 3 (.int .i64 (e' : Int))
          have S3 : Bk ((((W.setCell ⟨w.heap.size + 1, 0, none⟩ (.slice A ys.length cap)).setCell ⟨w.heap.size + 1, 1, none⟩ (.int .i64 (a' : Int))).setCell ⟨w.heap.size + 1, 2, none⟩ (.int .i64 (f' : Int))).setCell ⟨w.heap.size + 1, 3, none⟩ (.int .i64 (e' : Int))) w.heap.size 28 #[.int .i64 0, .int .i64 0] := (((S2.far (p := ⟨w.heap.size + 1, 0, none⟩) (by simp) (.slice A ys.length cap)).far (p := ⟨w.heap.size + 1, 1, none⟩) (by simp) (.int .i64 (a' : Int))).far (p := ⟨w.heap.size + 1, 2, none⟩) (by simp) (.int .i64 (f' : Int))).far (p := ⟨w.heap.size + 1, 3, none⟩) (by simp) (.int .i64 (e' : Int))
          have hg3 : W.grownBy ((((W.setCell ⟨w.heap.size + 1, 0, none⟩ (.slice A ys.length cap)).setCell ⟨w.heap.size + 1, 1, none⟩ (.int .i64 (a' : Int))).setCell ⟨w.heap.size + 1, 2, none⟩ (.int .i64 (f' : Int))).setCell ⟨w.heap.size + 1, 3, none⟩ (.int .i64 (e' : Int))) (some (w.heap.size + 1)) := gb_set (gb_set (gb_set (gb_set (World.grownBy.refl W (some (w.heap.size + 1))) 0 (.slice A ys.length cap)) 1 (.int .i64 (a' : Int))) 2 (.int .i64 (f' : Int))) 3 (.int .i64 (e' : Int))
          have hBW3 : Below w.heap.size w ((((W.setCell ⟨w.heap.size + 1, 0, none⟩ (.slice A ys.length cap)).setCell ⟨w.heap.size + 1, 1, none⟩ (.int .i64 (a' : Int))).setCell ⟨w.heap.size + 1, 2, none⟩ (.int .i64 (f' : Int))).setCell ⟨w.heap.size + 1, 3, none⟩ (.int .i64 (e' : Int))) := (((hBW.setCell (Nat.le_succ _) _).setCell (Nat.le_succ _) _).setCell (Nat.le_succ _) _).setCell (Nat.le_succ _) _
          by_cases he : e' = 0
          · have be : ((e' : Int) != 0) = false := by simp [he]
            have be' : (e' != 0) = false := by simp [he]
            have hg := HG.out
            rw [if_pos he] at hg
            have HG2 := Lib.hid hg
            have HE := Lib.hid he
            have O3 := OW.kept hg3 (fun b hb => by cases hb; omega)
            have V3 := hvW.low (b := w.heap.size + 1) hg3 (by omega)
            have V4 := (V3.base_le (base' := w.heap.size + 2) (by omega)).alloc (.cells #[.int .u64 (N : Int), .slice A9 m9 c9] 70)
            have O4 := O3.below ((Below.refl _ ((((W.setCell ⟨w.heap.size + 1, 0, none⟩ (.slice A ys.length cap)).setCell ⟨w.heap.size + 1, 1, none⟩ (.int .i64 (a' : Int))).setCell ⟨w.heap.size + 1, 2, none⟩ (.int .i64 (f' : Int))).setCell ⟨w.heap.size + 1, 3, none⟩ (.int .i64 (e' : Int)))).alloc (Nat.le_refl _) (.cells #[.int .u64 (N : Int), .slice A9 m9 c9] 70))
            have G4 : Bk (((((W.setCell ⟨w.heap.size + 1, 0, none⟩ (.slice A ys.length cap)).setCell ⟨w.heap.size + 1, 1, none⟩ (.int .i64 (a' : Int))).setCell ⟨w.heap.size + 1, 2, none⟩ (.int .i64 (f' : Int))).setCell ⟨w.heap.size + 1, 3, none⟩ (.int .i64 (e' : Int))).alloc (.cells #[.int .u64 (N : Int), .slice A9 m9 c9] 70)) W.heap.size 70 #[.int .u64 (N : Int), .slice A9 m9 c9] := by
              have h := Bk.new ((((W.setCell ⟨w.heap.size + 1, 0, none⟩ (.slice A ys.length cap)).setCell ⟨w.heap.size + 1, 1, none⟩ (.int .i64 (a' : Int))).setCell ⟨w.heap.size + 1, 2, none⟩ (.int .i64 (f' : Int))).setCell ⟨w.heap.size + 1, 3, none⟩ (.int .i64 (e' : Int))) 70 #[.int .u64 (N : Int), .slice A9 m9 c9]
              simp only [World.size_setCell] at h
              exact h
            have S4 := S3.alloc (.cells #[.int .u64 (N : Int), .slice A9 m9 c9] 70)
            have T4 := T3.alloc (.cells #[.int .u64 (N : Int), .slice A9 m9 c9] 70)
            have hne := own_ne V3 (fun g hg => by have := hOlt g hg; omega)
            have hBW4 := hBW3.alloc (by simp <;> omega) (.cells #[.int .u64 (N : Int), .slice A9 m9 c9] 70)
            clear he hg
            go_wp2_with (at_builtin; refine wpList_appendP rfl _ _ rfl (w.heap.size + 2) (.slice Av mv cv) ps ⟨N, BS⟩ (.slice A9 m9 c9) (by rfl) W.heap.size (by rfl) V4 hne O4 (by have := Hps.out; omega) (by simp <;> omega) G4 ?_; intro v' w10 hO10 hgrow hob)
            have S5 : Bk w10 w.heap.size 28 #[.int .i64 0, .int .i64 0] := (hgrow.block _ S4.lt (fun e => by have := hOlt _ e.symm; omega)).trans S4
            have T5 : Bk w10 (w.heap.size + 1) 46 #[.slice A ys.length cap, .int .i64 (a' : Int), .int .i64 (f' : Int), .int .i64 (e' : Int)] := (hgrow.block _ T4.lt (fun e => by have := hOlt _ e.symm; omega)).trans T4
            have B5 : Below w.heap.size w w10 := hBW4.grown hgrow (by simp <;> omega) (fun g hg => by have := hOlt g hg; omega)
            have he := HE.out
            subst he
            go_roundw
            case rel => exact ⟨k + 1, a', f', ps ++ [⟨N, BS⟩], by omega, by go_num, HL.out rfl, S5, T5, hO10, by rw [List.length_append, Hps.out]; rfl, HG2.out, B5⟩
            case measure => simp [intOf]; omega
          · have be : ((e' : Int) != 0) = true := bne_iff_ne.2 (by omega)
            have be' : (e' != 0) = true := bne_iff_ne.2 he
            have hg := HG.out
            rw [if_neg he] at hg
            subst hg
            have t2 : ((((W.setCell ⟨w.heap.size + 1, 0, none⟩ (.slice A ys.length cap)).setCell ⟨w.heap.size + 1, 1, none⟩ (.int .i64 (a' : Int))).setCell ⟨w.heap.size + 1, 2, none⟩ (.int .i64 (f' : Int))).setCell ⟨w.heap.size + 1, 3, none⟩ (.int .i64 (e' : Int))).cell? ⟨w.heap.size + 1, 2, none⟩ = some (.int .i64 (f' : Int)) := T3.c 2 _ rfl
            have t3 : ((((W.setCell ⟨w.heap.size + 1, 0, none⟩ (.slice A ys.length cap)).setCell ⟨w.heap.size + 1, 1, none⟩ (.int .i64 (a' : Int))).setCell ⟨w.heap.size + 1, 2, none⟩ (.int .i64 (f' : Int))).setCell ⟨w.heap.size + 1, 3, none⟩ (.int .i64 (e' : Int))).cell? ⟨w.heap.size + 1, 3, none⟩ = some (.int .i64 (e' : Int)) := T3.c 3 _ rfl
            have u0 : ((((W.setCell ⟨w.heap.size + 1, 0, none⟩ (.slice A ys.length cap)).setCell ⟨w.heap.size + 1, 1, none⟩ (.int .i64 (a' : Int))).setCell ⟨w.heap.size + 1, 2, none⟩ (.int .i64 (f' : Int))).setCell ⟨w.heap.size + 1, 3, none⟩ (.int .i64 (e' : Int))).cell? ⟨w.heap.size, 0, none⟩ = some (.int .i64 0) := S3.c 0 _ rfl
            have u1 : ((((W.setCell ⟨w.heap.size + 1, 0, none⟩ (.slice A ys.length cap)).setCell ⟨w.heap.size + 1, 1, none⟩ (.int .i64 (a' : Int))).setCell ⟨w.heap.size + 1, 2, none⟩ (.int .i64 (f' : Int))).setCell ⟨w.heap.size + 1, 3, none⟩ (.int .i64 (e' : Int))).cell? ⟨w.heap.size, 1, none⟩ = some (.int .i64 0) := S3.c 1 _ rfl
            have uz0 := S3.fz 0
            have uz1 := S3.fz 1
            clear he
            go_wp2_with fail
            go_region
            go_wp2_with fail
            refine bodyPost_ret (v := .tuple #[.slice none 0 0, .agg #[.int .i64 (f' : Int), .int .i64 (e' : Int)]]) (rres3 rfl _ _ w.heap.size rfl ((S3.set 0 (.int .i64 (f' : Int))).set 1 (.int .i64 (e' : Int))).drew) rfl ?_
            exact ⟨((hBW3.setCell (Nat.le_refl _) _).setCell (Nat.le_refl _) _).drew, rfl⟩
    · obtain rfl : k = len' := by omega
      rw [List.drop_of_length_le (by rw [HX.out]; exact Nat.le_refl _)] at hg
      unfold scanGo at hg
      clear hJ hI
      by_cases hl : a < bs.length
      · rw [if_pos (show 0 < RS.left ⟨bs, a, f, 0⟩ by unfold RS.left; change 0 < bs.length - a; omega)] at hg
        subst hg
        have hl' : (a : Int) < (bs.length : Int) := by omega
        have c1 := hT.c 1 _ rfl
        have s0 := hS.c 0 _ rfl
        have s1 := hS.c 1 _ rfl
        have sz0 := hS.fz 0
        have sz1 := hS.fz 1
        clear hl hO
        go_wp2_with fail
        go_region
        go_wp2_with fail
        refine bodyPost_ret (v := .tuple #[.slice none 0 0, .agg #[.int .i64 (a : Int), .int .i64 3]]) (rres3 rfl _ _ w.heap.size rfl ((hS.set 0 (.int .i64 (a : Int))).set 1 (.int .i64 3)).drew) rfl ?_
        exact ⟨((hB.setCell (Nat.le_refl _) _).setCell (Nat.le_refl _) _).drew, rfl⟩
      · rw [if_neg (show ¬ 0 < RS.left ⟨bs, a, f, 0⟩ by unfold RS.left; change ¬ 0 < bs.length - a; omega)] at hg
        subst hg
        have hl' : decide ((a : Int) < (bs.length : Int)) = false := decide_eq_false (by omega)
        have hl2 : decide (a < bs.length) = false := decide_eq_false hl
        have c1 := hT.c 1 _ rfl
        have s0 := hS.c 0 _ rfl
        have s1 := hS.c 1 _ rfl
        have sz0 := hS.fz 0
        have sz1 := hS.fz 1
        have O9 := hO.kept (gb_set (gb_set (World.grownBy.refl wr (some w.heap.size)) 0 (.int .i64 0)) 1 (.int .i64 0)) (fun b hb => by cases hb; omega)
        have S9 := (hS.set 0 (.int .i64 0)).set 1 (.int .i64 0)
        obtain ⟨Av, mv, cv, rfl, hmv, _, _, _⟩ := hO.sl
        have HMv := Lib.hid hmv
        clear hmv
        go_wp2_with fail
        refine bodyPost_ret (v := .tuple #[.slice Av mv cv, .agg #[.int .i64 0, .int .i64 0]]) (rres3 rfl _ _ w.heap.size rfl S9) rfl ?_
        exact ⟨(hB.setCell (Nat.le_refl _) _).setCell (Nat.le_refl _) _, _, rfl, O9.base_le (by omega)⟩
end Go.Proofs.Ytgcdjbhfphglfaa
