/-
  The contract of inet.Pseudo.
-/
import Derived.Test.YtgjjepcjdekihaaPConcat
namespace Go.Proofs.Ytgjjepcjdekihaa
open Go.RowKit Go.Lib

/-- The cells of an address. -/
def addrC (s : Bool) (bs : List UInt8) : Array Value := (.bool s :: bs.map v8).toArray
theorem addrC_six (w : World) (T : TypeId) (s : Bool) (bs : List UInt8) : (w.alloc (.cells (addrC s bs) T)).cell? ⟨w.heap.size, 0, none⟩ = some (.bool s) := by
  rw [cell_of_row _ w.heap.size 0 _ _ (0, 0) (heap_alloc_new w _)]; rfl
theorem addrC_rd (w : World) (T : TypeId) (s : Bool) (bs : List UInt8) (n : Nat) (hn : bs.length = n) : Rd (w.alloc (.cells (addrC s bs) T)) (w.heap.size + 1) (some ⟨w.heap.size, 1, none⟩) n bs :=
  ⟨hn, fun _ => ⟨w.heap.size, 1, rfl, by omega, fun j x hx => by
    rw [cell_of_row _ w.heap.size _ _ _ (0, 0) (heap_alloc_new w _)]
    simp [addrC, Nat.add_comm 1 j, hx]⟩⟩

/-- The pseudo header. -/
def pseudoOf (s : Bool) (a b : List UInt8) (p l : Nat) : List UInt8 :=
  if s then a ++ (b ++ [0, 0, UInt8.ofNat (l / 256), UInt8.ofNat (l % 256), 0, 0, 0, UInt8.ofNat p]) else a.take 4 ++ (b.take 4 ++ [0, UInt8.ofNat p, UInt8.ofNat (l / 256), UInt8.ofNat (l % 256)])

theorem v8_of (n : Nat) (h : n < 256) : v8 (UInt8.ofNat n) = .int .u8 (n : Int) := by
  unfold v8
  rw [UInt8.toNat_ofNat', Nat.mod_eq_of_lt h]
theorem tail_four (p l : Nat) (hp : p < 256) (hl : l < 65536) : ([0, UInt8.ofNat p, UInt8.ofNat (l / 256), UInt8.ofNat (l % 256)].map v8).toArray = #[.int .u8 0, .int .u8 (p : Int), .int .u8 ((l : Int) / 256), .int .u8 ((l : Int) % 256)] := by
  simp only [List.map_cons, List.map_nil]
  rw [v8_of p hp, v8_of (l / 256) (by omega), v8_of (l % 256) (by omega)]
  rfl
theorem tail_six (p l : Nat) (hp : p < 256) (hl : l < 65536) : ([0, 0, UInt8.ofNat (l / 256), UInt8.ofNat (l % 256), 0, 0, 0, UInt8.ofNat p].map v8).toArray = #[.int .u8 0, .int .u8 0, .int .u8 ((l : Int) / 256), .int .u8 ((l : Int) % 256), .int .u8 0, .int .u8 0, .int .u8 0, .int .u8 (p : Int)] := by
  simp only [List.map_cons, List.map_nil]
  rw [v8_of p hp, v8_of (l / 256) (by omega), v8_of (l % 256) (by omega)]
  rfl

/-- slices.Concat of three texts, their slices just laid in a row of new memory. -/
theorem concat_three (W : World) {A1 A2 A3 : Option Addr} {n1 n2 n3 c1 c2 c3 : Nat} {x y z : List UInt8} (h1 : Rd W W.heap.size A1 n1 x) (h2 : Rd W W.heap.size A2 n2 y) (h3 : Rd W W.heap.size A3 n3 z)
    (k1 : n1 ≤ c1) (k2 : n2 ≤ c2) (k3 : n3 ≤ c3) (m1 : c1 ≤ maxLen) (m2 : c2 ≤ maxLen) (m3 : c3 ≤ maxLen) (h0 : 0 < n3) (hlen : n1 + n2 + n3 ≤ 1000000) :
    Calls Try.prog 32 #[.slice (some ⟨W.heap.size, 0, none⟩) 3 3] (W.alloc (.cells #[.slice A1 n1 c1, .slice A2 n2 c2, .slice A3 n3 c3] 22)).drew fun e W' => ∃ v, e = .returned v ∧ Own8 W' W.heap.size v (x ++ (y ++ z)) ∧ Below W.heap.size W W' := by
  have hl := ((((CellsAt.nil_ W W.heap.size).cons h3 k3 m3).cons h2 k2 m2).cons h1 k1 m1).laid (Nat.le_refl _) 3 rfl
  have hf : ([x, y, z] : List (List UInt8)).flatten = x ++ (y ++ z) := by simp
  have h := concat_any (some ⟨W.heap.size, 0, none⟩) 3 3 [x, y, z] (by omega) (by rw [hf, List.length_append, List.length_append, h1.len, h2.len, h3.len]; omega) (by rw [hf, List.length_append, List.length_append, h1.len, h2.len, h3.len]; omega)
    (W.alloc (.cells #[.slice A1 n1 c1, .slice A2 n2 c2, .slice A3 n3 c3] 22)).drew (hl.drewN 1) (by show _ ≤ (World.heap _).size; rw [show (World.drew (W.alloc (.cells #[.slice A1 n1 c1, .slice A2 n2 c2, .slice A3 n3 c3] 22))).heap = (W.alloc (.cells #[.slice A1 n1 c1, .slice A2 n2 c2, .slice A3 n3 c3] 22)).heap from rfl]; simp)
  rw [hf] at h
  refine h.mono fun e W' ⟨v, he, ho, hb⟩ => ?_
  have hbel : Below W.heap.size W (W.alloc (.cells #[.slice A1 n1 c1, .slice A2 n2 c2, .slice A3 n3 c3] 22)).drew := ((Below.refl _ W).alloc (Nat.le_refl _) _).drew
  exact ⟨v, he, ho.base_le hbel.size, hbel.trans (hb.mono hbel.size)⟩

set_option maxRecDepth 100000 in
set_option maxHeartbeats 2000000 in
/-- inet.Pseudo, of addresses of IPv4. -/
theorem pseudo_four (a b : List UInt8) (ha : a.length = 16) (hb : b.length = 16) (p l : Nat) (hp : p < 256) (hl : l < 65536) (w : World) :
    Calls Try.prog 26 #[.agg (addrC false a), .agg (addrC false b), .int .i64 (p : Int), .int .i64 (l : Int)] w fun e W' => ∃ v, e = .returned v ∧ Own8 W' w.heap.size v (pseudoOf false a b p l) ∧ Below w.heap.size w W' := by
  have c0 := addrC_six w 35 false a
  have r0 := (addrC_rd w 35 false a 16 ha).alloc (by simp) (.cells (addrC false b) 35)
  have c0' : ((w.alloc (.cells (addrC false a) 35)).alloc (.cells (addrC false b) 35)).cell? ⟨w.heap.size, 0, none⟩ = some (.bool false) := by rw [World.cell?_alloc_lt _ _ _ (by simp)]; exact c0
  have c1 := addrC_six (w.alloc (.cells (addrC false a) 35)) 35 false b
  have r1 := addrC_rd (w.alloc (.cells (addrC false a) 35)) 35 false b 16 hb
  obtain ⟨C0, hC0⟩ : ∃ C, addrC false a = C := ⟨_, rfl⟩
  obtain ⟨C1, hC1⟩ : ∃ C, addrC false b = C := ⟨_, rfl⟩
  rw [hC0] at c0' c1 r0 r1 ⊢
  rw [hC1] at c0' c1 r0 r1 ⊢
  have hbw := (((Below.refl w.heap.size w).alloc (Nat.le_refl _) (.cells C0 35)).alloc (by simp) (.cells C1 35)).alloc (by simp; omega) (.cells #[.int .u8 0, .int .u8 (p : Int), .int .u8 ((l : Int) / 256), .int .u8 ((l : Int) % 256)] 5)
  have rt := Rd.laid ((w.alloc (.cells C0 35)).alloc (.cells C1 35)) [0, UInt8.ofNat p, UInt8.ofNat (l / 256), UInt8.ofNat (l % 256)] 4 rfl
  rw [tail_four p l hp hl] at rt
  have r0' := ((r0.alloc (by simp) (.cells #[.int .u8 0, .int .u8 (p : Int), .int .u8 ((l : Int) / 256), .int .u8 ((l : Int) % 256)] 5)).take (k := 4) (by omega)).more (B' := w.heap.size + 1 + 1 + 1) (by omega)
  have r1' := ((r1.alloc (by simp) (.cells #[.int .u8 0, .int .u8 (p : Int), .int .u8 ((l : Int) / 256), .int .u8 ((l : Int) % 256)] 5)).take (k := 4) (by omega)).more (B' := w.heap.size + 1 + 1 + 1) (by simp)
  have hsz : (((w.alloc (.cells C0 35)).alloc (.cells C1 35)).alloc (.cells #[.int .u8 0, .int .u8 (p : Int), .int .u8 ((l : Int) / 256), .int .u8 ((l : Int) % 256)] 5)).heap.size = w.heap.size + 1 + 1 + 1 := by simp
  simp only [World.size_alloc] at c1 r1' rt
  have H := concat_three _ (by rw [hsz]; exact r0') (by rw [hsz]; exact r1') (by rw [hsz]; exact rt) (c1 := 16) (c2 := 16) (c3 := 4) (by omega) (by omega) (by omega) (by simp [maxLen]) (by simp [maxLen]) (by simp [maxLen]) (by omega) (by omega)
  rw [hsz] at H
  have HC := Lib.hid H
  have HB := Lib.hid hbw
  have HZ := Lib.hid hsz
  clear hC0 hC1 c0 H hbw hsz r0 r1 r0' r1' rt
  go_enter Try.func26, Try.ntmps26
  go_wp2_with fail
  go_region_held3 (fun _ => True) (trivial) (first
    | (go_at_call 32; refine HC.out.mono ?_; rintro e W1 ⟨v, rfl, ho, hB1⟩))
  go_wp2_with fail
  go_ret
  exact ⟨v, rfl, ho.base_le (by omega), HB.out.trans (hB1.mono (by omega))⟩
set_option maxRecDepth 100000 in
set_option maxHeartbeats 2000000 in
/-- inet.Pseudo, of other addresses. -/
theorem pseudo_six (a b : List UInt8) (ha : a.length = 16) (hb : b.length = 16) (p l : Nat) (hp : p < 256) (hl : l < 65536) (w : World) :
    Calls Try.prog 26 #[.agg (addrC true a), .agg (addrC true b), .int .i64 (p : Int), .int .i64 (l : Int)] w fun e W' => ∃ v, e = .returned v ∧ Own8 W' w.heap.size v (pseudoOf true a b p l) ∧ Below w.heap.size w W' := by
  have c0 := addrC_six w 35 true a
  have r0 := (addrC_rd w 35 true a 16 ha).alloc (by simp) (.cells (addrC true b) 35)
  have c0' : ((w.alloc (.cells (addrC true a) 35)).alloc (.cells (addrC true b) 35)).cell? ⟨w.heap.size, 0, none⟩ = some (.bool true) := by rw [World.cell?_alloc_lt _ _ _ (by simp)]; exact c0
  have c1 := addrC_six (w.alloc (.cells (addrC true a) 35)) 35 true b
  have r1 := addrC_rd (w.alloc (.cells (addrC true a) 35)) 35 true b 16 hb
  obtain ⟨C0, hC0⟩ : ∃ C, addrC true a = C := ⟨_, rfl⟩
  obtain ⟨C1, hC1⟩ : ∃ C, addrC true b = C := ⟨_, rfl⟩
  rw [hC0] at c0' c1 r0 r1 ⊢
  rw [hC1] at c0' c1 r0 r1 ⊢
  have hbw := (((Below.refl w.heap.size w).alloc (Nat.le_refl _) (.cells C0 35)).alloc (by simp) (.cells C1 35)).alloc (by simp; omega) (.cells #[.int .u8 0, .int .u8 0, .int .u8 ((l : Int) / 256), .int .u8 ((l : Int) % 256), .int .u8 0, .int .u8 0, .int .u8 0, .int .u8 (p : Int)] 5)
  have rt := Rd.laid ((w.alloc (.cells C0 35)).alloc (.cells C1 35)) [0, 0, UInt8.ofNat (l / 256), UInt8.ofNat (l % 256), 0, 0, 0, UInt8.ofNat p] 8 rfl
  rw [tail_six p l hp hl] at rt
  have r0' := ((r0.alloc (by simp) (.cells #[.int .u8 0, .int .u8 0, .int .u8 ((l : Int) / 256), .int .u8 ((l : Int) % 256), .int .u8 0, .int .u8 0, .int .u8 0, .int .u8 (p : Int)] 5))).more (B' := w.heap.size + 1 + 1 + 1) (by omega)
  have r1' := ((r1.alloc (by simp) (.cells #[.int .u8 0, .int .u8 0, .int .u8 ((l : Int) / 256), .int .u8 ((l : Int) % 256), .int .u8 0, .int .u8 0, .int .u8 0, .int .u8 (p : Int)] 5))).more (B' := w.heap.size + 1 + 1 + 1) (by simp)
  have hsz : (((w.alloc (.cells C0 35)).alloc (.cells C1 35)).alloc (.cells #[.int .u8 0, .int .u8 0, .int .u8 ((l : Int) / 256), .int .u8 ((l : Int) % 256), .int .u8 0, .int .u8 0, .int .u8 0, .int .u8 (p : Int)] 5)).heap.size = w.heap.size + 1 + 1 + 1 := by simp
  simp only [World.size_alloc] at c1 r1' rt
  have H := concat_three _ (by rw [hsz]; exact r0') (by rw [hsz]; exact r1') (by rw [hsz]; exact rt) (c1 := 16) (c2 := 16) (c3 := 8) (by omega) (by omega) (by omega) (by simp [maxLen]) (by simp [maxLen]) (by simp [maxLen]) (by omega) (by omega)
  rw [hsz] at H
  have d1 : (l : Int) / 16777216 = 0 := by omega
  have d2 : (l : Int) / 65536 = 0 := by omega
  have HC := Lib.hid H
  have HB := Lib.hid hbw
  have HZ := Lib.hid hsz
  clear hC0 hC1 c0 H hbw hsz r0 r1 r0' r1' rt
  go_enter Try.func26, Try.ntmps26
  go_wp2_with fail
  go_region_held3 (fun _ => True) (trivial) (first
    | (go_at_call 32; refine HC.out.mono ?_; rintro e W1 ⟨v, rfl, ho, hB1⟩))
  go_wp2_with fail
  go_ret
  exact ⟨v, rfl, ho.base_le (by omega), HB.out.trans (hB1.mono (by omega))⟩
end Go.Proofs.Ytgjjepcjdekihaa
