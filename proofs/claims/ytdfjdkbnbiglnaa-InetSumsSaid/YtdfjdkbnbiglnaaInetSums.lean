/-
  PROVED HERE: 'InetSumsSaid': whatever b and at are, the Go function InetSums of package wayleavelaw06 returns true, and its arguments read behind the call as they read before. No condition.
-/
import Derived.Test.YtdfjdkbnbiglnaaIAwake
import Derived.Test.YtdfjdkbnbiglnaaLift
namespace Go.Proofs.Ytdfjdkbnbiglnaa
open Go.RowKit Go.Lib Go.ChangeShapes Go.WideShapes Go.ChangeAt

theorem right_bool (W : World) (cs : List Value) (l : List (List UInt8)) (h : CellsAt W W.heap.size cs l) (n cap : Nat) (hn : cs.length = n) (hn2 : n ≤ 1000) (hlen : l.flatten.length ≤ 1000000) (c : Nat) (hc : ckOf l.flatten = c) (B : Bool) (hB : (c == 0) = B) (k : Nat) :
    Calls Try.prog 12 #[.slice (some ⟨W.heap.size, 0, none⟩) n cap] ((W.alloc (.cells cs.toArray 22)).drewN k) fun e W' => e = .returned (.bool B) ∧ (W.alloc (.cells cs.toArray 22)).drewN k = W' := by
  subst hc hB
  by_cases h0 : ckOf l.flatten = 0
  · rw [h0]
    exact right_row W cs l h n cap hn hn2 hlen h0 k
  · rw [beq_eq_false_iff_ne.2 h0]
    exact wrong_row W cs l h n cap hn hn2 hlen h0 k

theorem sum_now (W : World) (cs : List Value) (l : List (List UInt8)) (h : CellsAt W W.heap.size cs l) (n cap : Nat) (hn : cs.length = n) (hn2 : n ≤ 1000) (hlen : l.flatten.length ≤ 1000000) (c : Nat) (hc : ckOf l.flatten = c) :
    Calls Try.prog 10 #[.slice (some ⟨W.heap.size, 0, none⟩) n cap] (W.alloc (.cells cs.toArray 22)) fun e W' => e = .returned (.int .u16 (c : Int)) ∧ W.alloc (.cells cs.toArray 22) = W' :=
  sum_row W cs l h n cap hn hn2 hlen c hc 0

section
variable {W : World} {A : Option Addr} {len cap k c : Nat} {xs : List UInt8}
/-- Sum of a text in two parts. -/
theorem two_ck (h : Rd W W.heap.size A len xs) (hk : k ≤ len) (hcap : len ≤ cap) (hcm : cap ≤ maxLen) (hlen : len ≤ 1000) (hc : ckOf xs = c) :
    Calls Try.prog 10 #[.slice (some ⟨W.heap.size, 0, none⟩) 2 2] (W.alloc (.cells #[.slice A k cap, .slice (cutA A cap k) (len - k) (cap - k)] 22)) fun e W' => e = .returned (.int .u16 (c : Int)) ∧ W.alloc (.cells #[.slice A k cap, .slice (cutA A cap k) (len - k) (cap - k)] 22) = W' := by
  have hf : ([xs.take k, xs.drop k] : List (List UInt8)).flatten = xs := by simp
  exact sum_now W [.slice A k cap, .slice (cutA A cap k) (len - k) (cap - k)] _ (CellsAt.two (h.take hk) (by omega) hcm (h.from hk cap hcap) (by omega) (by unfold maxLen at *; omega)) 2 2 rfl (by omega) (by rw [hf, h.len]; omega) c (by rw [hf]; exact hc)
/-- Sum of a text in two parts, with nothing ahead of each. -/
theorem four_ck (h : Rd W W.heap.size A len xs) (hk : k ≤ len) (hcap : len ≤ cap) (hcm : cap ≤ maxLen) (hlen : len ≤ 1000) (hc : ckOf xs = c) :
    Calls Try.prog 10 #[.slice (some ⟨W.heap.size, 0, none⟩) 4 4] (W.alloc (.cells #[.slice none 0 0, .slice A k cap, .slice none 0 0, .slice (cutA A cap k) (len - k) (cap - k)] 22)) fun e W' => e = .returned (.int .u16 (c : Int)) ∧ W.alloc (.cells #[.slice none 0 0, .slice A k cap, .slice none 0 0, .slice (cutA A cap k) (len - k) (cap - k)] 22) = W' := by
  have hf : ([[], xs.take k, [], xs.drop k] : List (List UInt8)).flatten = xs := by simp
  have hcells := (((CellsAt.one (h.from hk cap hcap) (c := cap - k) (by omega) (by unfold maxLen at *; omega)).cons (Rd.nil_ none) (Nat.le_refl 0) (small_max (by omega))).cons (h.take hk) (c := cap) (by omega) hcm).cons (Rd.nil_ none) (Nat.le_refl 0) (small_max (by omega))
  exact sum_now W [.slice none 0 0, .slice A k cap, .slice none 0 0, .slice (cutA A cap k) (len - k) (cap - k)] _ hcells 4 4 rfl (by omega) (by rw [hf, h.len]; omega) c (by rw [hf]; exact hc)
/-- Right of a text. -/
theorem one_right (h : Rd W W.heap.size A len xs) (hcap : len ≤ cap) (hcm : cap ≤ maxLen) (hlen : len ≤ 1000) (hc : ckOf xs = c) (B : Bool) (hB : (c == 0) = B) :
    Calls Try.prog 12 #[.slice (some ⟨W.heap.size, 0, none⟩) 1 1] (W.alloc (.cells #[.slice A len cap] 22)) fun e W' => e = .returned (.bool B) ∧ W.alloc (.cells #[.slice A len cap] 22) = W' := by
  have hf : ([xs] : List (List UInt8)).flatten = xs := by simp
  exact right_bool W [.slice A len cap] _ (CellsAt.one h hcap hcm) 1 1 rfl (by omega) (by rw [hf, h.len]; omega) c (by rw [hf]; exact hc) B hB 0
theorem check_bytes (c : Nat) (hc : c ≤ 65535) : ([UInt8.ofNat (c / 256), UInt8.ofNat (c % 256)].map v8).toArray = #[.int .u8 ((c : Int) / 256), .int .u8 ((c : Int) % 256)] := by
  simp only [List.map_cons, List.map_nil]
  rw [v8_of (c / 256) (by omega), v8_of (c % 256) (by omega)]
  rfl
/-- Right of a text of an even count of bytes, and its checksum behind it. -/
theorem with_right (h : Rd W W.heap.size A len xs) (hcap : len ≤ cap) (hcm : cap ≤ maxLen) (hlen : len ≤ 1000) (he : len % 2 = 0) (hc : ckOf xs = c) :
    Calls Try.prog 12 #[.slice (some ⟨W.heap.size + 1, 0, none⟩) 2 2] ((W.alloc (.cells #[.int .u8 ((c : Int) / 256), .int .u8 ((c : Int) % 256)] 5)).alloc (.cells #[.slice A len cap, .slice (some ⟨W.heap.size, 0, none⟩) 2 2] 22))
      fun e W' => e = .returned (.bool true) ∧ (W.alloc (.cells #[.int .u8 ((c : Int) / 256), .int .u8 ((c : Int) % 256)] 5)).alloc (.cells #[.slice A len cap, .slice (some ⟨W.heap.size, 0, none⟩) 2 2] 22) = W' := by
  have hcl := ckOf_le xs
  rw [hc] at hcl
  have hr := Rd.laid W [UInt8.ofNat (c / 256), UInt8.ofNat (c % 256)] 2 rfl
  rw [check_bytes c hcl] at hr
  have hx := (h.alloc (Nat.le_refl _) (.cells #[.int .u8 ((c : Int) / 256), .int .u8 ((c : Int) % 256)] 5)).more (B' := (W.alloc (.cells #[.int .u8 ((c : Int) / 256), .int .u8 ((c : Int) % 256)] 5)).heap.size) (by simp)
  have hf : ([xs, [UInt8.ofNat (c / 256), UInt8.ofNat (c % 256)]] : List (List UInt8)).flatten = xs ++ [UInt8.ofNat (c / 256), UInt8.ofNat (c % 256)] := by simp
  have e := right_row _ [.slice A len cap, .slice (some ⟨W.heap.size, 0, none⟩) 2 2] _ (CellsAt.two hx hcap hcm (hr.more (by simp)) (Nat.le_refl 2) (small_max (by omega))) 2 2 rfl (by omega) (by rw [hf, List.length_append, h.len]; simp; omega)
    (by rw [hf]; exact ck_right xs (by rw [h.len]; exact he) _ _ (by rw [UInt8.toNat_ofNat', UInt8.toNat_ofNat', hc]; omega)) 0
  simp only [World.size_alloc] at e
  exact e
end

set_option maxRecDepth 100000 in
set_option maxHeartbeats 4000000 in
theorem inetSums_walk (A : Option Addr) (len cap : Nat) (xs : List UInt8) (hcap : len ≤ cap) (hcm : cap ≤ maxLen) (at_ : Nat) (hat : at_ < 65536) (w : World) (hI : Rd w w.heap.size A len xs) :
    Calls Try.prog 3 #[.slice A len cap, .int .u16 (at_ : Int)] w fun e W' => e = .returned (.bool true) ∧ Below w.heap.size w W' := by
  by_cases h1 : 1000 < len
  · have h1' : (1000 : Int) < (len : Int) := by omega
    go_enter Try.func3, Try.ntmps3
    go_wp2_with fail
    refine (awake_any _).mono ?_
    rintro e w1 ⟨rfl, hb1⟩
    go_wp2_with fail
    refine (awake_any _).mono ?_
    rintro e w2 ⟨rfl, hb2⟩
    go_wp2_with fail
    go_ret
    exact ⟨rfl, hb1.trans (hb2.mono hb1.size)⟩
  · have h1' : (len : Int) ≤ 1000 := by omega
    have HL := Lib.hid hI.len
    have hcl := ckOf_le xs
    obtain ⟨c, hc⟩ : ∃ c, ckOf xs = c := ⟨_, rfl⟩
    rw [hc] at hcl
    have HC := Lib.hid hc
    clear hc
    have hk0 : ¬ (len : Int) + 1 = 0 := by omega
    go_enter Try.func3, Try.ntmps3
    go_wp2_with fail
    refine (awake_any _).mono ?_
    rintro e w1 ⟨rfl, hb1⟩
    have z1 := hb1.size
    have hI1 := (hI.below hb1).more z1
    go_wp2_with fail
    obtain ⟨k, hk⟩ : ∃ k : Nat, (at_ : Int) % ((len : Int) + 1) = (k : Int) := ⟨at_ % (len + 1), by rw [Int.natCast_emod, Int.natCast_add]; rfl⟩
    have hkl : k ≤ len := by
      have := Int.emod_lt_of_pos (at_ : Int) (b := (len : Int) + 1) (by omega)
      omega
    rw [hk]
    clear hk hk0
    have hf1 : ([xs] : List (List UInt8)).flatten = xs := by simp
    refine (sum_now w1 [.slice A len cap] [xs] (CellsAt.one hI1 hcap hcm) 1 1 rfl (by omega) (by rw [hf1, HL.out]; omega) c (by rw [hf1]; exact HC.out)).mono ?_
    rintro e w2 ⟨rfl, hw2⟩
    have B2 : Below w.heap.size w w2 := by rw [← hw2]; exact hb1.alloc z1 _
    have hI2 : Rd w2 w2.heap.size A len xs := (hI.below B2).more B2.size
    clear hw2 hI1 hb1 z1 hf1
    have z2 := B2.size
    go_wp2_with fail
    have hs1 : ∀ W : World, (Instr.slice 22 (.slice A len cap) none (some (.int .i64 (k : Int))) none).run Try.prog W = .ok (.slice A k cap) W := fun W => run_upto8 A len cap k _ rfl (by omega) W
    have hs2 : ∀ W : World, (Instr.slice 22 (.slice A len cap) (some (.int .i64 (k : Int))) none none).run Try.prog W = .ok (.slice (cutA A cap k) (len - k) (cap - k)) W := fun W => run_from8 A len cap k hkl W
    have hR := fun (W : World) (h : Below w2.heap.size w2 W) => rsum_any A len cap xs (by omega) W (hI2.below h) h.size
    rw [HC.out] at hR
    have HR := Lib.hid hR
    clear hR
    have hw : IntKind.i64.wrap (c : Int) = (c : Int) := by rw [IntKind.wrap_i64]; omega
    have e1 : ((c : Int) != (c : Int)) = false := by simp
    have e2 : (c != c) = false := by simp
    obtain ⟨B, hB⟩ : ∃ B, (c == 0) = B := ⟨_, rfl⟩
    have hB' : ((c : Int) == 0) = B := by
      rw [← hB]
      by_cases h : c = 0
      · subst h; rfl
      · rw [beq_eq_false_iff_ne.2 h]; exact beq_eq_false_iff_ne.2 (by omega)
    have e3 : (B != B) = false := by simp
    have HB := Lib.hid hB
    have hlen : len ≤ 1000 := by omega
    go_region_held3 (fun _ => True) (trivial) (first
      | (go_at_call 11; refine (HR.out _ ?_).mono ?_; exact (Below.refl _ _).drew; rintro e w3 ⟨rfl, hb3⟩; have B3 : Below w2.heap.size w2 w3 := (Below.refl _ w2).drew.trans hb3; clear hb3; have q3 := two_ck ((hI2.below B3).more B3.size) hkl hcap hcm hlen HC.out; have Q3 := Lib.hid q3; clear q3)
      | (go_at_call 10; (with_reducible refine Q3.out.mono ?_); rintro e w4 ⟨rfl, hw4⟩; have B4 : Below w2.heap.size w2 w4 := by { rw [← hw4]; exact B3.alloc B3.size _ }; clear hw4; have q4 := four_ck ((hI2.below B4).more B4.size) hkl hcap hcm hlen HC.out; have Q4 := Lib.hid q4; clear q4)
      | (go_at_call 10; (with_reducible refine Q4.out.mono ?_); rintro e w5 ⟨rfl, hw5⟩; have B5 : Below w2.heap.size w2 w5 := by { rw [← hw5]; exact B4.alloc B4.size _ }; clear hw5; have q5 := one_right ((hI2.below B5).more B5.size) hcap hcm hlen HC.out B HB.out; have Q5 := Lib.hid q5; clear q5)
      | (go_at_call 12; (with_reducible refine Q5.out.mono ?_); rintro e w6 ⟨rfl, hw6⟩; have B6 : Below w2.heap.size w2 w6 := by { rw [← hw6]; exact B5.alloc B5.size _ }; clear hw6))
    have hcu : c < 65536 := by omega
    rcases Nat.mod_two_eq_zero_or_one len with hp | hp
    · have p1 : (len : Int) % 2 = 0 := by omega
      have q6 := with_right ((hI2.below B6).more B6.size) hcap hcm hlen hp HC.out
      have Q6 := Lib.hid q6
      have hb := (B6.alloc B6.size (.cells #[.int .u8 ((c : Int) / 256), .int .u8 ((c : Int) % 256)] 5)).alloc (by have := B6.size; simp; omega) (.cells #[.slice A len cap, .slice (some ⟨w6.heap.size, 0, none⟩) 2 2] 22)
      have HB6 := Lib.hid hb
      clear q6 hb
      go_wp2_with fail
      refine Q6.out.mono ?_
      rintro e w7 ⟨rfl, rfl⟩
      go_wp2_with fail
      go_ret
      exact ⟨rfl, B2.trans (HB6.out.mono B2.size)⟩
    · have p1 : (len : Int) % 2 = 1 := by omega
      go_wp2_with fail
      go_ret
      exact ⟨rfl, B2.trans (B6.mono B2.size)⟩

theorem inetSums_walks : WalksTrue 3 Try.f3 := by
  intro H enc W base args ds p hval hA
  rw [Try.params3] at hA hval
  obtain ⟨v0, vs0, d0, ds0, p0, q0, hargs, rfl, rfl, h0, r0⟩ := trodAll_cons hA
  obtain ⟨v1, vs1, d1, ds1, p1, q1, rfl, rfl, rfl, h1, r1⟩ := trodAll_cons r0
  obtain ⟨rfl, rfl, rfl⟩ := trodAll_nil r1
  obtain rfl : args = #[v0, v1] := by cases args; simp_all
  obtain ⟨A0, len0, cap0, xs0, rfl, hc0, hm0, hI0⟩ := open_bytes (hval 0 22 v0 rfl rfl) h0
  obtain ⟨a1, rfl, rfl, rfl, w1⟩ := open_int Try.underlying23 (hval 1 23 v1 rfl rfl) h1
  obtain ⟨g1a, g1b⟩ := range_u16 w1
  obtain ⟨n1, rfl⟩ := Int.eq_ofNat_of_zero_le g1a
  exact inetSums_walk A0 len0 cap0 xs0 hc0 hm0 n1 (by omega) W hI0

theorem inetSums_said : Rows.InetSumsSaid :=
  OpenClaim.holds_of_wide 3 Try.f3 rfl rfl rfl rfl rfl rfl rfl ⟨rfl, rfl, rfl, rfl, rfl⟩ rfl rfl rfl rfl rfl (by kernel_rfl) Try.func3 (by kernel_rfl)
    (of_decide_eq_true (by kernel_rfl)) (by unfold Func.isWrapper; first | (rw [if_pos (by decide +kernel)]; kernel_rfl) | (rw [if_neg (by decide +kernel)]; exact ⟨rfl, rfl⟩))
    (fun os started H enc _ => law_lift (s := Rows.inetSumsSpec) Try.func3 (by kernel_rfl) rfl rfl (by intro H ds hd; match ds, hd with | [_, _], _ => exact ⟨rfl, rfl, rfl⟩) (by kernel_rfl) inetSums_walks os started H enc
      (ChangeSpec.witness6 (enc := enc) (C := Try.checked) false ⟨#[], #[.slice none 0 0, .int .u16 0], []⟩ 8 (by kernel_rfl) (by kernel_rfl) (by kernel_rfl) (by kernel_rfl)))

end Go.Proofs.Ytdfjdkbnbiglnaa
