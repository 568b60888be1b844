/-
  tunnel.carried; tunnel.Wrap.
-/
import Derived.Test.YtomkfcpellcncaaTSmall
namespace Go.Proofs.Ytomkfcpellcncaa
set_option maxRecDepth 100000
open Go.RowKit Go.Lib

theorem zeroIp2 : (ip0.toArray : Array Value) = #[.int .i64 0, .int .i64 0, .slice none 0 0, .slice none 0 0, .int .i64 0, .bool false] := rfl
/-- A value stored into the first of two blocks that were just made. -/
theorem wpList_storeNew2 {arr arr2 : Array Value} {w : World} {ops : Array Oper} {rest : List Oper} {op : Oper} {a : Act} {Q : Exit → Act → World → Prop} (hgd : op.guard = none) (T T2 : TypeId) (x y : Operand) (ho : op.op = .store T x y)
    (hx : a.eval x = .pointer (some ⟨w.heap.size, 0, none⟩)) (cs : List Value) (hy : a.eval y = .agg cs.toArray) (hl : arr.size = cs.length) (hi : (Try.prog.info? T).map (·.size) = some cs.length) (h1 : ∀ v ∈ cs, v.oneCell' = true)
    (h : ∀ w', Blk w' T w.heap.size cs → Blk w' T2 (w.heap.size + 1) arr2.toList → Below w.heap.size w w' → wpList Try.prog ops Q rest (a.put op.dst undef) w') :
    wpList Try.prog ops Q (op :: rest) a ((w.alloc (.cells arr T)).alloc (.cells arr2 T2)) := by
  have hb := (Blk_10.new w T arr.toList).alloc (.cells arr2 T2)
  rw [Array.toArray_toList] at hb
  have hb2 := Blk_10.new (w.alloc (.cells arr T)) T2 arr2.toList
  rw [Array.toArray_toList, World.size_alloc] at hb2
  refine wpList_storeRG hgd T x y ho w.heap.size hx cs hy arr.toList hb (by rw [Array.length_toList]; exact hl) hi h1 ?_
  intro w' q1 q2 q3
  exact h w' q1 ((q2 _ (Nat.succ_ne_self _)).trans hb2) ((((Below.refl w.heap.size w).alloc (Nat.le_refl _) _).alloc (by simp) _).trans q3)
theorem concat3b (W : World) {A1 A2 A3 : Option Addr} {n1 n2 n3 c1 c2 c3 : Nat} {x y z : List UInt8} (h1 : Rd W W.heap.size A1 n1 x) (h2 : Rd W W.heap.size A2 n2 y) (h3 : Rd W W.heap.size A3 n3 z)
    (k1 : n1 ≤ c1) (k2 : n2 ≤ c2) (k3 : n3 ≤ c3) (m1 : c1 ≤ maxLen) (m2 : c2 ≤ maxLen) (m3 : c3 ≤ maxLen) (h0 : 0 < n1) (hlen : n1 + n2 + n3 ≤ 1000000) :
    Calls Try.prog 22 #[.slice (some ⟨W.heap.size, 0, none⟩) 3 3] (W.alloc (.cells #[.slice A1 n1 c1, .slice A2 n2 c2, .slice A3 n3 c3] 22)) fun e W' => ∃ v, e = .returned v ∧ Own8 W' W.heap.size v (x ++ (y ++ z)) ∧ Below W.heap.size W W' := by
  have hl := ((((CellsAt.nil_ W W.heap.size).cons h3 k3 m3).cons h2 k2 m2).cons h1 k1 m1).laid (Nat.le_refl _) 3 rfl
  have hf : ([x, y, z] : List (List UInt8)).flatten = x ++ (y ++ z) := by simp
  have h := concat_any (some ⟨W.heap.size, 0, none⟩) 3 3 [x, y, z] (by omega) (by rw [hf, List.length_append, List.length_append, h1.len, h2.len, h3.len]; omega) (by rw [hf, List.length_append, List.length_append, h1.len, h2.len, h3.len]; omega)
    (W.alloc (.cells #[.slice A1 n1 c1, .slice A2 n2 c2, .slice A3 n3 c3] 22)) hl (by simp)
  rw [hf] at h
  refine h.mono fun e W' ⟨v, he, ho, hb⟩ => ?_
  have hbel : Below W.heap.size W (W.alloc (.cells #[.slice A1 n1 c1, .slice A2 n2 c2, .slice A3 n3 c3] 22)) := (Below.refl _ W).alloc (Nat.le_refl _) _
  exact ⟨v, he, ho.base_le hbel.size, hbel.trans (hb.mono hbel.size)⟩
theorem concat2b (W : World) {A1 A2 : Option Addr} {n1 n2 c1 c2 : Nat} {x y : List UInt8} (h1 : Rd W W.heap.size A1 n1 x) (h2 : Rd W W.heap.size A2 n2 y)
    (k1 : n1 ≤ c1) (k2 : n2 ≤ c2) (m1 : c1 ≤ maxLen) (m2 : c2 ≤ maxLen) (h0 : 0 < n1) (hlen : n1 + n2 ≤ 1000000) :
    Calls Try.prog 22 #[.slice (some ⟨W.heap.size, 0, none⟩) 2 2] (W.alloc (.cells #[.slice A1 n1 c1, .slice A2 n2 c2] 22)) fun e W' => ∃ v, e = .returned v ∧ Own8 W' W.heap.size v (x ++ y) ∧ Below W.heap.size W W' := by
  have hl := (((CellsAt.nil_ W W.heap.size).cons h2 k2 m2).cons h1 k1 m1).laid (Nat.le_refl _) 2 rfl
  have hf : ([x, y] : List (List UInt8)).flatten = x ++ y := by simp
  have h := concat_any (some ⟨W.heap.size, 0, none⟩) 2 2 [x, y] (by omega) (by rw [hf, List.length_append, h1.len, h2.len]; omega) (by rw [hf, List.length_append, h1.len, h2.len]; omega)
    (W.alloc (.cells #[.slice A1 n1 c1, .slice A2 n2 c2] 22)) hl (by simp)
  rw [hf] at h
  refine h.mono fun e W' ⟨v, he, ho, hb⟩ => ?_
  have hbel : Below W.heap.size W (W.alloc (.cells #[.slice A1 n1 c1, .slice A2 n2 c2] 22)) := (Below.refl _ W).alloc (Nat.le_refl _) _
  exact ⟨v, he, ho.base_le hbel.size, hbel.trans (hb.mono hbel.size)⟩

set_option maxHeartbeats 4000000 in
theorem tcar_4 {k0 a0 : Int} {A1 A : Option Addr} {n1 c1 m c p : Nat} {f : Bool} {ys : List UInt8} (hm : m ≤ 1000000) (hp : p = 4) (w : World) (hS : SlR w A m c ys) :
    Calls Try.prog 29 #[.agg (ipL k0 a0 (.slice A1 n1 c1) (.slice A m c) (p : Int) f).toArray] w (IpGave w (tyP p) (p : Int) A c (ntP p ys)) := by
  obtain ⟨Z, hZ⟩ : ∃ Z : World, (w.alloc (.cells (ipL k0 a0 (.slice A1 n1 c1) (.slice A m c) (p : Int) f).toArray 54)).alloc (.cells ip0.toArray 54) = Z := ⟨_, rfl⟩
  have HQ := Lib.hid (show Blk Z 54 w.heap.size (ipL k0 a0 (.slice A1 n1 c1) (.slice A m c) (p : Int) f) by rw [← hZ]; exact (Blk_10.new w _ _).alloc _)
  have HP := Lib.hid (show Blk Z 54 (w.heap.size + 1) ip0 by
    rw [← hZ]
    have := Blk_10.new (w.alloc (.cells (ipL k0 a0 (.slice A1 n1 c1) (.slice A m c) (p : Int) f).toArray 54)) 54 ip0
    rwa [World.size_alloc] at this)
  have HB := Lib.hid (show Below w.heap.size w Z by rw [← hZ]; exact ((Below.refl w.heap.size w).alloc (Nat.le_refl _) _).alloc (by simp) _)
  have d3 : Z.cell? ⟨w.heap.size, 3, none⟩ = some (.slice A m c) := Blk_10.cell HQ.out rfl
  have d4 : Z.cell? ⟨w.heap.size, 4, none⟩ = some (.int .i64 (p : Int)) := Blk_10.cell HQ.out rfl
  unfold IpGave
  subst hp
  have hA := hS.r
  have hF := tfour_any A m c ys hm hS.h1 hS.h2 Z ((hA.below HB.out).more HB.out.size)
  unfold IpGave at hF
  have HF := Lib.hid hF
  rw [show ntP 4 ys = nt4 ys from rfl, show tyP 4 = 2048 from rfl, show ((4 : Nat) : Int) = 4 from rfl]
  rw [show ((4 : Nat) : Int) = 4 from rfl] at d4
  obtain ⟨cs, hcs⟩ : ∃ cs, ipV 2048 4 A c (nt4 ys) = cs := ⟨_, rfl⟩
  obtain ⟨b, hbb⟩ : ∃ b, decide ((nt4 ys).e = 0) = b := ⟨_, rfl⟩
  have HCS := Lib.hid (show cs.length = 6 by rw [← hcs]; exact ipV_len _ _ _ _ _)
  have HON := Lib.hid (show ∀ v ∈ cs, v.oneCell' = true by rw [← hcs]; exact ipV_one _ _ _ _ _)
  rw [hcs, hbb] at HF ⊢
  rw [show ((4 : Nat) : Int) = 4 from rfl] at hZ
  rw [zeroIp2] at hZ
  unfold ipL at hZ ⊢
  rw [← hZ] at d3 d4
  have HZ := Lib.hid hZ
  clear hZ hS hA hF hcs hbb hm
  go_enter Try.func29, Try.ntmps29
  go_wp2_with fail
  rw [HZ.out]
  refine HF.out.mono ?_
  rintro e w3 ⟨rfl, hb3⟩
  have HB3 := Lib.hid (HB.out.trans (hb3.mono HB.out.size))
  have HP3 := Lib.hid (HP.out.below HP.out.lt hb3)
  clear hb3 d3 d4
  go_wp2_with (((with_reducible show wpList _ _ _ (⟨none, .store 54 (.tmp 2) (.tmp 11), _, _, _, _⟩ :: _) _ _); refine wpList_storeRG rfl 54 (.tmp 2) _ rfl (w.heap.size + 1) (by rfl) cs (by rfl) _ HP3.out (by rw [HCS.out]; rfl) (by rw [HCS.out]; exact sizeIp) HON.out ?_; intro w4 hp4 hn4 hb4; have HP4 := Lib.hid hp4; have HB4 := Lib.hid (HB3.out.trans (hb4.mono (Nat.le_succ _))); clear hp4 hn4 hb4))
  refine bodyPost_ret (v := .tuple #[.agg cs.toArray, .bool b]) (results_ip rfl _ _ (w.heap.size + 1) (by rfl) _ HCS.out HP4.out _ (by rfl)) rfl ?_
  exact ⟨rfl, HB4.out⟩

set_option maxHeartbeats 4000000 in
theorem tcar_6 {k0 a0 : Int} {A1 A : Option Addr} {n1 c1 m c p : Nat} {f : Bool} {ys : List UInt8} (hm : m ≤ 1000000) (hp : p = 41) (w : World) (hS : SlR w A m c ys) :
    Calls Try.prog 29 #[.agg (ipL k0 a0 (.slice A1 n1 c1) (.slice A m c) (p : Int) f).toArray] w (IpGave w (tyP p) (p : Int) A c (ntP p ys)) := by
  obtain ⟨Z, hZ⟩ : ∃ Z : World, (w.alloc (.cells (ipL k0 a0 (.slice A1 n1 c1) (.slice A m c) (p : Int) f).toArray 54)).alloc (.cells ip0.toArray 54) = Z := ⟨_, rfl⟩
  have HQ := Lib.hid (show Blk Z 54 w.heap.size (ipL k0 a0 (.slice A1 n1 c1) (.slice A m c) (p : Int) f) by rw [← hZ]; exact (Blk_10.new w _ _).alloc _)
  have HP := Lib.hid (show Blk Z 54 (w.heap.size + 1) ip0 by
    rw [← hZ]
    have := Blk_10.new (w.alloc (.cells (ipL k0 a0 (.slice A1 n1 c1) (.slice A m c) (p : Int) f).toArray 54)) 54 ip0
    rwa [World.size_alloc] at this)
  have HB := Lib.hid (show Below w.heap.size w Z by rw [← hZ]; exact ((Below.refl w.heap.size w).alloc (Nat.le_refl _) _).alloc (by simp) _)
  have d3 : Z.cell? ⟨w.heap.size, 3, none⟩ = some (.slice A m c) := Blk_10.cell HQ.out rfl
  have d4 : Z.cell? ⟨w.heap.size, 4, none⟩ = some (.int .i64 (p : Int)) := Blk_10.cell HQ.out rfl
  unfold IpGave
  subst hp
  have hA := hS.r
  have hF := tsix_any A m c ys hm hS.h1 hS.h2 Z ((hA.below HB.out).more HB.out.size)
  unfold IpGave at hF
  have HF := Lib.hid hF
  rw [show ntP 41 ys = nt6 ys from rfl, show tyP 41 = 34525 from rfl, show ((41 : Nat) : Int) = 41 from rfl]
  rw [show ((41 : Nat) : Int) = 41 from rfl] at d4
  obtain ⟨cs, hcs⟩ : ∃ cs, ipV 34525 41 A c (nt6 ys) = cs := ⟨_, rfl⟩
  obtain ⟨b, hbb⟩ : ∃ b, decide ((nt6 ys).e = 0) = b := ⟨_, rfl⟩
  have HCS := Lib.hid (show cs.length = 6 by rw [← hcs]; exact ipV_len _ _ _ _ _)
  have HON := Lib.hid (show ∀ v ∈ cs, v.oneCell' = true by rw [← hcs]; exact ipV_one _ _ _ _ _)
  rw [hcs, hbb] at HF ⊢
  rw [show ((41 : Nat) : Int) = 41 from rfl] at hZ
  rw [zeroIp2] at hZ
  unfold ipL at hZ ⊢
  rw [← hZ] at d3 d4
  have HZ := Lib.hid hZ
  clear hZ hS hA hF hcs hbb hm
  go_enter Try.func29, Try.ntmps29
  go_wp2_with fail
  rw [HZ.out]
  refine HF.out.mono ?_
  rintro e w3 ⟨rfl, hb3⟩
  have HB3 := Lib.hid (HB.out.trans (hb3.mono HB.out.size))
  have HP3 := Lib.hid (HP.out.below HP.out.lt hb3)
  clear hb3 d3 d4
  go_wp2_with (((with_reducible show wpList _ _ _ (⟨none, .store 54 (.tmp 2) (.tmp 18), _, _, _, _⟩ :: _) _ _); refine wpList_storeRG rfl 54 (.tmp 2) _ rfl (w.heap.size + 1) (by rfl) cs (by rfl) _ HP3.out (by rw [HCS.out]; rfl) (by rw [HCS.out]; exact sizeIp) HON.out ?_; intro w4 hp4 hn4 hb4; have HP4 := Lib.hid hp4; have HB4 := Lib.hid (HB3.out.trans (hb4.mono (Nat.le_succ _))); clear hp4 hn4 hb4))
  refine bodyPost_ret (v := .tuple #[.agg cs.toArray, .bool b]) (results_ip rfl _ _ (w.heap.size + 1) (by rfl) _ HCS.out HP4.out _ (by rfl)) rfl ?_
  exact ⟨rfl, HB4.out⟩

set_option maxHeartbeats 4000000 in
theorem tcar_x {k0 a0 : Int} {A1 A : Option Addr} {n1 c1 m c p : Nat} {f : Bool} {ys : List UInt8} (hp : ¬ (p = 4 ∨ p = 41)) (w : World) :
    Calls Try.prog 29 #[.agg (ipL k0 a0 (.slice A1 n1 c1) (.slice A m c) (p : Int) f).toArray] w (IpGave w (tyP p) (p : Int) A c (ntP p ys)) := by
  obtain ⟨Z, hZ⟩ : ∃ Z : World, (w.alloc (.cells (ipL k0 a0 (.slice A1 n1 c1) (.slice A m c) (p : Int) f).toArray 54)).alloc (.cells ip0.toArray 54) = Z := ⟨_, rfl⟩
  have HQ := Lib.hid (show Blk Z 54 w.heap.size (ipL k0 a0 (.slice A1 n1 c1) (.slice A m c) (p : Int) f) by rw [← hZ]; exact (Blk_10.new w _ _).alloc _)
  have HP := Lib.hid (show Blk Z 54 (w.heap.size + 1) ip0 by
    rw [← hZ]
    have := Blk_10.new (w.alloc (.cells (ipL k0 a0 (.slice A1 n1 c1) (.slice A m c) (p : Int) f).toArray 54)) 54 ip0
    rwa [World.size_alloc] at this)
  have HB := Lib.hid (show Below w.heap.size w Z by rw [← hZ]; exact ((Below.refl w.heap.size w).alloc (Nat.le_refl _) _).alloc (by simp) _)
  have d3 : Z.cell? ⟨w.heap.size, 3, none⟩ = some (.slice A m c) := Blk_10.cell HQ.out rfl
  have d4 : Z.cell? ⟨w.heap.size, 4, none⟩ = some (.int .i64 (p : Int)) := Blk_10.cell HQ.out rfl
  unfold IpGave
  rw [ntP_x hp ys, show ipV (tyP p) (p : Int) A c (ntNo 3) = ip0 from rfl, show decide ((ntNo 3).e = 0) = false from rfl]
  have b4 : ((p : Int) == 4) = false := beq_eq_false_iff_ne.2 (by omega)
  have b6 : ((p : Int) == 41) = false := beq_eq_false_iff_ne.2 (by omega)
  have c4 : (p == 4) = false := beq_eq_false_iff_ne.2 (by omega)
  have c6 : (p == 41) = false := beq_eq_false_iff_ne.2 (by omega)
  rw [zeroIp2] at hZ
  unfold ipL at hZ ⊢
  rw [← hZ] at d3 d4
  have HZ := Lib.hid hZ
  clear hZ hp
  go_enter Try.func29, Try.ntmps29
  go_wp2_with (first
    | ((with_reducible show wpList _ _ _ (⟨some 20, _, _, _, _, _⟩ :: _) _ _); refine wpList_buildw (op := ⟨some 20, _, _, _, _, _⟩) 54 _ rfl (by rfl) _ (by kernel_rfl) ip0.toArray built_ip0 ?_)
    | ((with_reducible show wpList _ _ _ (⟨none, .store 54 (.tmp 2) _, _, _, _, _⟩ :: _) _ _); rw [HZ.out]; refine wpList_storeRG rfl 54 (.tmp 2) _ rfl (w.heap.size + 1) (by rfl) ip0 (by rfl) _ HP.out rfl sizeIp ip0_one ?_; intro w4 hp4 hn4 hb4; have HP4 := Lib.hid hp4; have HB4 := Lib.hid (HB.out.trans (hb4.mono (Nat.le_succ _))); clear hp4 hn4 hb4))
  refine bodyPost_ret (v := .tuple #[.agg ip0.toArray, .bool false]) (results_ip rfl _ _ (w.heap.size + 1) (by rfl) _ rfl HP4.out _ (by rfl)) rfl ?_
  exact ⟨rfl, HB4.out⟩

/-- tunnel.carried -/
theorem tcar_any {k0 a0 : Int} {A1 A : Option Addr} {n1 c1 m c p : Nat} {f : Bool} {ys : List UInt8} (hm : m ≤ 1000000) (w : World) (hS : SlR w A m c ys) :
    Calls Try.prog 29 #[.agg (ipL k0 a0 (.slice A1 n1 c1) (.slice A m c) (p : Int) f).toArray] w (IpGave w (tyP p) (p : Int) A c (ntP p ys)) := by
  by_cases h4 : p = 4
  · exact tcar_4 hm h4 w hS
  · by_cases h6 : p = 41
    · exact tcar_6 hm h6 w hS
    · exact tcar_x (by omega) w

theorem tags_of {w : World} {base : Nat} {A : Option Addr} {n c : Nat} {ts : List Tg} (h : OwnT w base (.slice A n c) ts) : TagsAt w w.heap.size A n ts := by
  obtain ⟨A', m, c', e, q1, q2, q3, q4, _⟩ := h.sl
  cases e
  exact q4
/-- What tunnel.Wrap answers. -/
def WrGave (w : World) (xs : List UInt8) (s d : Ad) (e : Ending) (w' : World) : Prop :=
  (wrapE xs s d = 0 → ∃ v, e = .returned (.tuple #[v, .int .i64 0]) ∧ Own8 w' w.heap.size v (wrapL xs s d)) ∧
  (wrapE xs s d ≠ 0 → e = .returned (.tuple #[.slice none 0 0, .int .i64 (wrapE xs s d : Int)])) ∧ Below w.heap.size w w'
set_option maxHeartbeats 8000000 in
theorem twrap_no (A : Option Addr) (len cap : Nat) (xs : List UInt8) {s d : Ad} (hs : s.b.length = 16) (hd : d.b.length = 16) (hlen : len ≤ 900000) (hcap : len ≤ cap) (hcm : cap ≤ maxLen) (h0 : (fN xs).e ≠ 0) (w : World) (hI : Rd w w.heap.size A len xs) :
    Calls Try.prog 10 #[.slice A len cap, adC s, adC d] w fun e w' => e = .returned (.tuple #[.slice none 0 0, .int .i64 3]) ∧ Below w.heap.size w w' := by
  obtain ⟨Y, hY, hq, hr, hbel⟩ := box_ads w s d
  have HQ := Lib.hid hq
  have HR := Lib.hid hr
  have HB := Lib.hid hbel
  have HS := Lib.hid hs
  have HD := Lib.hid hd
  have hPK := tpack_any A len cap xs (by omega) hcap hcm Y ((hI.below HB.out).more HB.out.size)
  unfold PkGave at hPK
  have HPK := Lib.hid hPK
  have H0 := Lib.hid h0
  unfold adC at *
  obtain ⟨C0, hC0⟩ : ∃ C, (adL s).toArray = C := ⟨_, rfl⟩
  obtain ⟨C1, hC1⟩ : ∃ C, (adL d).toArray = C := ⟨_, rfl⟩
  rw [hC0, hC1] at hY ⊢
  have HY := Lib.hid hY
  clear hY hq hr hbel hs hd hC0 hC1 hPK h0 hI
  go_enter Try.func10, Try.ntmps10
  go_wp2_with fail
  rw [HY.out]
  refine HPK.out.mono ?_
  rintro e w1 ⟨hx, hz, hb1⟩
  obtain ⟨L, At, mt, ct, h6, rfl⟩ := hx H0.out
  have H6 := Lib.hid h6
  have BY1 := Lib.hid hb1
  clear hb1 h6 hx hz
  go_wp2_with (first
    | ((with_reducible show wpList _ _ _ (⟨none, .store 41 (.tmp 8) (.tmp 16), _, _, _, _⟩ :: _) _ _); refine wpList_storeNew2 (op := ⟨none, .store 41 (.tmp 8) (.tmp 16), _, _, _, _⟩) rfl 41 54 _ _ rfl (by rfl) (lkL L (.slice At mt ct)) (by rfl) (by rw [lkL_len H6.out]; rfl) (sizeLkL H6.out _) (lkL_one L _ rfl) ?_; intro w2 hl2 hi2 hb2; have HK2 := Lib.hid hl2; have HI2 := Lib.hid (show Blk w2 54 (w1.heap.size + 1) ip0 from hi2); have BY2 := Lib.hid (BY1.out.trans (hb2.mono BY1.out.size)); have HG := Lib.hid BY1.out.size; clear hl2 hi2 hb2; generalize w1.heap.size = G at HK2 HI2 HG ⊢)
    | ((with_reducible show wpList _ _ _ (⟨none, .store 54 (.tmp 9) (.tmp 17), _, _, _, _⟩ :: _) _ _); refine wpList_storeRG rfl 54 (.tmp 9) _ rfl (G + 1) (by rfl) ip0 (by rfl) _ HI2.out rfl sizeIp ip0_one ?_; intro w3 hi3 hn3 hb3; have HI3 := Lib.hid hi3; have HK3 := Lib.hid (show Blk w3 41 G _ from (hn3 _ (Nat.ne_of_lt (Nat.lt_succ_self _))).trans HK2.out); have BY3 := Lib.hid (BY2.out.trans (hb3.mono (Nat.le_succ_of_le HG.out))); clear hi3 hn3 hb3))
  go_ret2
  exact ⟨rfl, HB.out.trans (BY3.out.mono HB.out.size)⟩

set_option maxHeartbeats 16000000 in
theorem twrap_yes (A : Option Addr) (len cap : Nat) (xs : List UInt8) {s d : Ad} (hs : s.b.length = 16) (hd : d.b.length = 16) (hlen : len ≤ 900000) (hcap : len ≤ cap) (hcm : cap ≤ maxLen) (h0 : (fN xs).e = 0) (w : World) (hI : Rd w w.heap.size A len xs) :
    Calls Try.prog 10 #[.slice A len cap, adC s, adC d] w (WrGave w xs s d) := by
  have hF := frame_of h0
  have hrt := right_ty hF.right (tyA_vals s)
  have h6 := hF.six
  have htot : (fN xs).total ≤ 900000 := by have := hF.h2; rw [hI.len] at this; omega
  have hvals := asN_vals (rdOf xs).1.ty
  have hwE : (famB s d = false → wrapE xs s d = 1) ∧ (famB s d = true → decide ((fN xs).total ≤ mostT s) = false → wrapE xs s d = 4) ∧ (famB s d = true → decide ((fN xs).total ≤ mostT s) = true → wrapE xs s d = 0) := by
    unfold wrapE
    rw [if_neg (by omega)]
    refine ⟨fun h => if_pos h, fun h h2 => ?_, fun h h2 => ?_⟩
    · rw [if_neg (by rw [h]; decide), if_pos (by have := of_decide_eq_false h2; omega)]
    · rw [if_neg (by rw [h]; decide), if_neg (by have := of_decide_eq_true h2; omega)]
  obtain ⟨Y, hY, hq, hr, hbel⟩ := box_ads w s d
  have HQ := Lib.hid hq
  have HR := Lib.hid hr
  have HB := Lib.hid hbel
  have HS := Lib.hid hs
  have HD := Lib.hid hd
  have hPK := tpack_any A len cap xs (by omega) hcap hcm Y ((hI.below HB.out).more HB.out.size)
  unfold PkGave at hPK
  have N0 := h0
  unfold WrGave
  obtain ⟨E, hE⟩ : ∃ E, wrapE xs s d = E := ⟨_, rfl⟩
  rw [hE] at hwE ⊢
  clear hE
  obtain ⟨L, hL⟩ : ∃ L, (rdOf xs).1 = L := ⟨_, rfl⟩
  obtain ⟨n, hn⟩ : ∃ n, fN xs = n := ⟨_, rfl⟩
  rw [hL, hn] at hPK
  rw [hn] at hwE
  have hwL : wrapL xs s d = lkB { L with ty := tyA s } ++ (headT s d (asN L.ty) n.total ++ packK xs) := by rw [← hL, ← hn]; rfl
  rw [hwL]
  clear hwL
  rw [hn] at N0
  have N0 := Lib.hid N0
  rw [hL] at hrt h6 hvals
  rw [hn] at htot
  obtain ⟨T, hT⟩ : ∃ T, n.total = T := ⟨_, rfl⟩
  obtain ⟨M, hM⟩ : ∃ M, n.total - n.head = M := ⟨_, rfl⟩
  obtain ⟨p, hp⟩ : ∃ p, n.proto = p := ⟨_, rfl⟩
  obtain ⟨f, hf⟩ : ∃ f, n.frag = f := ⟨_, rfl⟩
  obtain ⟨a, ha⟩ : ∃ a, asN L.ty = a := ⟨_, rfl⟩
  obtain ⟨ty, hty⟩ : ∃ ty, L.ty = ty := ⟨_, rfl⟩
  rw [hM, hT, hp, hf, ha, hty] at hPK
  rw [hT, ha]
  rw [hT] at htot hwE
  rw [ha] at hvals
  have HPK := Lib.hid hPK
  have HKD := Lib.hid (fun W => tkind_any s W)
  have HLK := Lib.hid (fun W A n cap hT => tlink_any h6 (A := A) (n := n) (cap := cap) hrt W hT)
  have HLL := Lib.hid (show (lkB { L with ty := tyA s }).length = 14 + 4 * L.ts.length from lkB_len (six_ty h6 _))
  have HTS := Lib.hid (show L.ts.length ≤ 2 from (right_parts hrt).1)
  have HFA := Lib.hid (fun W => tfam_any hs hd W)
  have HHD := Lib.hid (fun W => thead_any hs hd (p := a) (n := T) (by omega) W)
  unfold HdGave at HHD
  rw [okT_eq s d hvals T] at HHD
  have HHL := Lib.hid (headT_len hs hd a T)
  have H6 := Lib.hid h6
  obtain ⟨bf, hbf⟩ : ∃ b, famB s d = b := ⟨_, rfl⟩
  obtain ⟨bm, hbm⟩ : ∃ b, decide (T ≤ mostT s) = b := ⟨_, rfl⟩
  have HHE := Lib.hid (show lenT s ≤ 40 by unfold lenT; split <;> omega)
  have HTT := Lib.hid htot
  rw [hbf] at HFA HHD
  rw [hbm] at HHD hwE
  rw [hbf] at hwE
  have HEF := Lib.hid hwE
  clear hwE
  unfold adC at *
  obtain ⟨C0, hC0⟩ : ∃ C, (adL s).toArray = C := ⟨_, rfl⟩
  obtain ⟨C1, hC1⟩ : ∃ C, (adL d).toArray = C := ⟨_, rfl⟩
  rw [hC0] at hY HKD HFA HHD ⊢
  rw [hC1] at hY HFA HHD ⊢
  have HC0 := Lib.hid hC0
  have HC1 := Lib.hid hC1
  have HY := Lib.hid hY
  obtain ⟨kd, hkd⟩ : ∃ k, tyA s = k := ⟨_, rfl⟩
  rw [hkd] at HKD HLK HLL ⊢
  have HLT := Lib.hid (show 14 ≤ (lkB { L with ty := kd }).length ∧ (lkB { L with ty := kd }).length ≤ 22 by rw [HLL.out]; have := HTS.out; omega)
  obtain ⟨lb, hlb⟩ : ∃ l, lkB { L with ty := kd } = l := ⟨_, rfl⟩
  rw [hlb] at HLK HLT ⊢
  obtain ⟨hb', hhb⟩ : ∃ l, headT s d a T = l := ⟨_, rfl⟩
  rw [hhb] at HHD HHL ⊢
  obtain ⟨pb, hpb⟩ : ∃ l, packK xs = l := ⟨_, rfl⟩
  rw [hpb] at HPK ⊢
  clear hY hq hr hbel hs hd hC0 hC1 hPK h0 hI hF hrt h6 hvals hL hn hT hM hp hf ha hty hbf hbm hkd HLL HTS hlb hhb hpb htot
  go_enter Try.func10, Try.ntmps10
  go_wp2_with fail
  rw [HY.out]
  refine HPK.out.mono ?_
  rintro e w1 ⟨hx, hz, hb1⟩
  obtain ⟨At, mt, ct, A1, c1, A2, c2, rfl, hown, hs1, hs2⟩ := hz N0.out
  have BY1 := Lib.hid hb1
  have HTA := Lib.hid hown
  have HSL := Lib.hid hs1
  clear hb1 hown hs1 hs2 HPK hx hz
  go_wp2_with (first
    | ((with_reducible show wpList _ _ _ (⟨none, .store 41 (.tmp 8) (.tmp 16), _, _, _, _⟩ :: _) _ _); refine wpList_storeNew2 (op := ⟨none, .store 41 (.tmp 8) (.tmp 16), _, _, _, _⟩) rfl 41 54 _ _ rfl (by rfl) (lkL L (.slice At mt ct)) (by rfl) (by rw [lkL_len H6.out]; rfl) (sizeLkL H6.out _) (lkL_one L _ rfl) ?_; intro w2 hl2 hi2 hb2; have HK2 := Lib.hid hl2; have HI2 := Lib.hid (show Blk w2 54 (w1.heap.size + 1) ip0 from hi2); have BY2 := Lib.hid (BY1.out.trans (hb2.mono BY1.out.size)); have HTA2 := Lib.hid (HTA.out.below hb2); have HG := Lib.hid BY1.out.size; have HLTA := Lib.hid (fun g hg => (HTA.out.lt g hg).2); clear hl2 hi2 hb2; generalize w1.heap.size = G at HK2 HI2 HG HLTA ⊢)
    | ((with_reducible show wpList _ _ _ (⟨none, .store 54 (.tmp 9) (.tmp 17), _, _, _, _⟩ :: _) _ _); refine wpList_storeRG rfl 54 (.tmp 9) _ rfl (G + 1) (by rfl) (ipL ty (a : Int) (.slice A1 T c1) (.slice A2 M c2) (p : Int) f) (by rfl) _ HI2.out rfl sizeIp (ipL_one _ _ _ _ _ _ _ _ _ _) ?_; intro w3 hi3 hn3 hb3; have HI3 := Lib.hid hi3; have HK3 := Lib.hid (show Blk w3 41 G _ from (hn3 _ (Nat.ne_of_lt (Nat.lt_succ_self _))).trans HK2.out); have BY3 := Lib.hid (BY2.out.trans (hb3.mono (Nat.le_succ_of_le HG.out))); have HTA3 := Lib.hid (HTA2.out.kept (gb_of hn3 hb3) (own_ne (fun g hg => Nat.lt_succ_of_lt (HLTA.out g hg)))); clear hi3 hn3 hb3)
    | ((with_reducible show wpList _ _ _ (⟨some 21, _, _, _, _, _⟩ :: _) _ _); refine wpList_loadM (op := ⟨some 21, _, _, _, _, _⟩) 25 _ rfl (by rfl) w.heap.size 0 (by rfl) (adL s) (Blk_10.range (HQ.out.below HQ.out.lt BY3.out)) _ Try.underlying25 rfl (sizeAdL HS.out) ?_; rw [HC0.out])
    | ((with_reducible show wpList _ _ _ (⟨some 22, _, _, _, _, _⟩ :: _) _ _); refine wpList_loadM (op := ⟨some 22, _, _, _, _, _⟩) 25 _ rfl (by rfl) (w.heap.size + 1) 0 (by rfl) (adL d) (Blk_10.range (HR.out.below HR.out.lt BY3.out)) _ Try.underlying25 rfl (sizeAdL HD.out) ?_; rw [HC1.out]))
  refine (HFA.out _).mono ?_
  rintro e w4 ⟨rfl, hb4⟩
  have BY4 := Lib.hid (BY3.out.trans (hb4.mono BY3.out.size))
  have HB4 := Lib.hid (HB.out.trans (BY4.out.mono HB.out.size))
  have HK4 := Lib.hid (HK3.out.below HK3.out.lt hb4)
  have HI4 := Lib.hid (HI3.out.below HI3.out.lt hb4)
  have HTA4 := Lib.hid (HTA3.out.below hb4)
  clear hb4
  cases bf with
  | false =>
    obtain rfl := HEF.out.1 rfl
    go_wp2_with fail
    go_ret2
    exact ⟨fun h => (by cases h), fun _ => rfl, HB4.out⟩
  | true =>
    have e1 := Blk_10.cell HI4.out (i := 1) (v := .int .i64 (a : Int)) rfl
    have e2 := Blk_10.cell HI4.out (i := 2) (v := .slice A1 T c1) rfl
    go_wp2_with (first
      | ((with_reducible show wpList _ _ _ (⟨some 26, _, _, _, _, _⟩ :: _) _ _); refine wpList_loadM (op := ⟨some 26, _, _, _, _, _⟩) 25 _ rfl (by rfl) w.heap.size 0 (by rfl) (adL s) (Blk_10.range (HQ.out.below HQ.out.lt BY4.out)) _ Try.underlying25 rfl (sizeAdL HS.out) ?_; rw [HC0.out])
      | ((with_reducible show wpList _ _ _ (⟨some 27, _, _, _, _, _⟩ :: _) _ _); refine wpList_loadM (op := ⟨some 27, _, _, _, _, _⟩) 25 _ rfl (by rfl) (w.heap.size + 1) 0 (by rfl) (adL d) (Blk_10.range (HR.out.below HR.out.lt BY4.out)) _ Try.underlying25 rfl (sizeAdL HD.out) ?_; rw [HC1.out]))
    refine (HHD.out _).mono ?_
    rintro e w5 ⟨hy, hno, hb5⟩
    have BY5 := Lib.hid (BY4.out.trans (hb5.mono BY4.out.size))
    have HB5 := Lib.hid (HB.out.trans (BY5.out.mono HB.out.size))
    have HQ5 := Lib.hid (HQ.out.below HQ.out.lt BY5.out)
    have HK5 := Lib.hid (HK4.out.below HK4.out.lt hb5)
    have HI5 := Lib.hid (HI4.out.below HI4.out.lt hb5)
    have HTA5 := Lib.hid (HTA4.out.below hb5)
    have HSL5 := Lib.hid (HSL.out.below BY5.out)
    clear hb5 e1 e2
    rw [Bool.true_and] at hy hno
    cases bm with
    | false =>
      obtain rfl := hno rfl
      clear hy hno
      obtain rfl : E = 4 := by have := HEF.out.2.1; simpa using this
      go_wp2_with fail
      go_ret2
      first | exact ⟨fun h => (by cases h), fun _ => rfl, HB5.out⟩ | exact ⟨rfl, HB5.out⟩
    | true =>
      obtain ⟨v, rfl, ho⟩ := hy rfl
      clear hno hy
      obtain rfl : E = 0 := by have := HEF.out.2.2; simpa using this
      obtain ⟨lh, hlh⟩ : ∃ k, lenT s = k := ⟨_, rfl⟩
      rw [hlh] at HHL HHE
      obtain ⟨A3, c3, rfl, _, _, _⟩ := ho.formN HHL.out
      obtain ⟨ll, hll⟩ : ∃ k, lb.length = k := ⟨_, rfl⟩
      have HLL := Lib.hid hll
      rw [hll] at HLT
      have HO5 := Lib.hid ho
      have HCC := Lib.hid (fun (W : World) (hW : Below w5.heap.size w5 W) (A4 : Option Addr) (c4 : Nat) (hO : Own8 W w5.heap.size (.slice A4 ll c4) lb) => concat3b W (hO.rdN HLL.out).2.2 ((HO5.out.below hW).rdN HHL.out).2.2 (HSL5.out.below hW).r (hO.rdN HLL.out).1 (HO5.out.rdN HHL.out).1 HSL5.out.h1 (hO.rdN HLL.out).2.1 (HO5.out.rdN HHL.out).2.1 HSL5.out.h2 (by have := HLT.out; omega) (by have := HLT.out; have := HHE.out; have := HTT.out; omega))
      have HTG := Lib.hid (fun (W : World) (hW : Below w5.heap.size w5 W) => show TagsAt W W.heap.size At mt L.ts from tags_of (HTA5.out.below hW))
      clear ho hlh hll
      go_upto_region 9 with (fail)
      refine wp_region_held_drew (S := fun W => Below w5.heap.size w5 W) (by kernel_rfl) ((Below.refl _ _).drew) (fun hHeld => ?_)
      obtain ⟨X, hX⟩ : ∃ X, w5.drew = X := ⟨_, rfl⟩
      rw [hX] at hHeld ⊢
      clear hX
      refine tkY 0 38 (lkC L (.slice At mt ct)) rfl (yieldsIf_load_mid (by rfl) 41 _ rfl G 0 rfl (lkL L (.slice At mt ct)) _ (fun W hW => Blk_10.range (HK5.out.below HK5.out.lt hW)) Try.underlying41 rfl (sizeLkL H6.out _)) hHeld ?_
      simp only [Act.put, sA, sZ, sS]
      refine tkY 1 39 (.agg (adL s).toArray) rfl (yieldsIf_load_mid (by rfl) 25 _ (by rfl) w.heap.size 0 rfl (adL s) _ (fun W hW => Blk_10.range (HQ5.out.below HQ5.out.lt hW)) Try.underlying25 rfl (sizeAdL HS.out)) hHeld ?_
      simp only [Act.put, sA, sZ, sS]
      rw [HC0.out]
      refine tk 4 42 (.slice A3 lh c3) rfl hHeld ?_
      simp only [Act.put, sA, sZ, sS]
      refine tk 5 43 (.pointer (some ⟨G + 1, 2, none⟩)) rfl hHeld ?_
      simp only [Act.put, sA, sZ, sS]
      refine tkY 6 44 (.slice A1 T c1) rfl (Or.inl ⟨by rfl, fun W hW => by have hc := Blk_10.cell (HI5.out.below HI5.out.lt hW) (i := 2) (v := .slice A1 T c1) rfl; go_simp⟩) hHeld ?_
      simp only [Act.put, sA, sZ, sS]
      refine wpAnyH_ready (rs := [2]) (by kernel_rfl) (by simp) (AllReadyH.cons (o := ⟨some 40, _, _, _, _, _⟩) rfl (fun K hK => ?_) AllReadyH.nil)
      go_simp
      refine (HKD.out _).mono ?_
      rintro e w6 ⟨rfl, hb6⟩
      refine hK.out _ _ (hHeld.trans (hb6.mono hHeld.size)) (fun hHeld => ?_)
      clear hK K hb6
      refine wpAnyH_ready (rs := [3]) (by kernel_rfl) (by simp) (AllReadyH.cons (o := ⟨some 41, _, _, _, _, _⟩) rfl (fun K hK => ?_) AllReadyH.nil)
      go_simp
      refine (HLK.out _ At mt ct (HTG.out _ hHeld)).mono ?_
      rintro e w7 ⟨v7, rfl, ho7, hb7⟩
      obtain ⟨A7, c7, rfl, _, _, _⟩ := ho7.formN HLL.out
      have HO7 := Lib.hid (ho7.base_le hHeld.size)
      refine hK.out _ _ (hHeld.trans (hb7.mono hHeld.size)) (fun hHeld => ?_)
      clear hK K hb7 ho7
      have HBX := Lib.hid hHeld
      have HCD := Lib.hid (HCC.out _ hHeld A7 c7 HO7.out)
      refine wpAnyH_ready (rs := [7]) (by kernel_rfl) (by simp) (AllReadyH.cons (o := ⟨some 45, _, _, _, _, _⟩) rfl (fun K hK => ?_) AllReadyH.nil)
      go_simp
      refine hK.out _ _ (hHeld.alloc hHeld.size _) (fun hHeld => ?_)
      clear hK K 
      refine wpAnyH_ready (rs := [8]) (by kernel_rfl) (by simp) (AllReadyH.cons (o := ⟨some 46, _, _, _, _, _⟩) rfl (fun K hK => ?_) AllReadyH.nil)
      go_simp
      refine HCD.out.mono ?_
      rintro e w8 ⟨v8', rfl, ho8, hb8⟩
      have HB8 := Lib.hid (HBX.out.trans (hb8.mono HBX.out.size))
      have HO8 := Lib.hid (ho8.base_le HBX.out.size)
      obtain ⟨l8, hl8⟩ : ∃ k, (lb ++ (hb' ++ pb)).length = k := ⟨_, rfl⟩
      obtain ⟨A8, c8, rfl, _, _, _⟩ := ho8.formN hl8
      refine hK.out _ _ (HB8.out) (fun hHeld => ?_)
      clear hK K hb8 ho8 hl8
      refine tk 9 6 (.slice A8 l8 c8) rfl hHeld ?_
      simp only [Act.put, sA, sZ, sS]
      refine tk 10 7 (.int .i64 0) rfl hHeld ?_
      simp only [Act.put, sA, sZ, sS]
      refine wpAnyH_done (by kernel_rfl) ?_ _
      go_wp2_with fail
      go_ret2
      first | exact ⟨fun _ => ⟨_, rfl, HO8.out.base_le HB5.out.size⟩, fun h => absurd rfl h, HB5.out.trans (HB8.out.mono HB5.out.size)⟩ | exact ⟨⟨_, rfl, HO8.out.base_le HB5.out.size⟩, HB5.out.trans (HB8.out.mono HB5.out.size)⟩
/-- tunnel.Wrap -/
theorem twrap_any (A : Option Addr) (len cap : Nat) (xs : List UInt8) {s d : Ad} (hs : s.b.length = 16) (hd : d.b.length = 16) (hlen : len ≤ 900000) (hcap : len ≤ cap) (hcm : cap ≤ maxLen) (w : World) (hI : Rd w w.heap.size A len xs) :
    Calls Try.prog 10 #[.slice A len cap, adC s, adC d] w (WrGave w xs s d) := by
  by_cases h0 : (fN xs).e = 0
  · exact twrap_yes A len cap xs hs hd hlen hcap hcm h0 w hI
  · refine (twrap_no A len cap xs hs hd hlen hcap hcm h0 w hI).mono ?_
    rintro e w' ⟨rfl, hb⟩
    have hE : wrapE xs s d = 3 := if_pos h0
    refine ⟨fun h => ?_, fun _ => ?_, hb⟩
    · rw [hE] at h; cases h
    · rw [hE]; rfl
end Go.Proofs.Ytomkfcpellcncaa
