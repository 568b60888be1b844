/-
  PROVED HERE: 'RecordKeepsSaid': whatever l is, the Go function RecordKeeps of package wayleavelaw05 returns true, and its argument reads behind the call as it read before. No condition.
-/
import Derived.Test.YtaabfhfiipmhcaaROpen
import Derived.Test.YtaabfhfiipmhcaaRDoc
namespace Go.Proofs.Ytaabfhfiipmhcaa
open Go.RowKit Go.Lib Go.ChangeShapes Go.WideShapes Go.ChangeAt

theorem rowOf_short : ∀ l : List (List UInt8), (∀ xs ∈ l, xs.length ≤ 300) → (rowOf l).length ≤ 307 * l.length
  | [], _ => Nat.le_refl _
  | xs :: l, h => by
    have h1 := rowOf_short l fun ys hy => h ys (List.mem_cons_of_mem _ hy)
    have h2 := h xs (List.mem_cons_self ..)
    have h3 := uvarint_max (n := xs.length) (by omega)
    rw [rowOf, List.length_append, recOf_len, List.length_cons]
    omega
/-- Records in a row are read as they were. -/
theorem all_row (l : List (List UInt8)) (h : ∀ xs ∈ l, xs.length ≤ 1048576) : allOf (rowOf l) = ⟨l, (rowOf l).length, 0⟩ := by
  obtain ⟨j, j1, j2, j3, j4⟩ := all_cut l (rowOf l).length h (Nat.le_refl _)
  have hj : j = l.length := by
    rcases Nat.lt_or_ge j l.length with hlt | hge
    · have h1 := j3 hlt
      have h2 := rowOf_mono l (i := j + 1) (j := l.length) hlt
      rw [List.take_length] at h2
      omega
    · omega
  subst hj
  rw [List.take_length, List.take_length, if_pos rfl] at j4
  exact j4
theorem Own8.frozen {w : World} {base g n c : Nat} {xs : List UInt8} (h : Own8 w base (.slice (some ⟨g, 0, none⟩) n c) xs) (j : Nat) : w.frozen? ⟨g, j, none⟩ = false := by
  rcases h.2 with ⟨e, _⟩ | ⟨g', cap', cur, e, _, hg, _⟩
  · cases e
  · cases e
    exact frozen_of_row w g j cur _ hg
/-- The block of a slice of one's own; one that is given, if it has nothing. -/
theorem own_row {w : World} {base n c : Nat} {A : Option Addr} {xs : List UInt8} (ho : Own8 w base (.slice A n c) xs) (hn : n = xs.length) (B d : Nat) (hB : B ≤ base) (hd : B ≤ d) (hl : d < w.heap.size) :
    ∃ g, B ≤ g ∧ g < w.heap.size ∧ (0 < n → A = some ⟨g, 0, none⟩) ∧ ∀ (j : Nat) (x : UInt8), xs[j]? = some x → w.cell? ⟨g, j, none⟩ = some (v8 x) ∧ w.frozen? ⟨g, j, none⟩ = false := by
  subst hn
  rcases Nat.eq_zero_or_pos xs.length with h0 | h0
  · refine ⟨d, hd, hl, fun h => absurd h (by omega), fun j x hx => ?_⟩
    have := (List.getElem?_eq_some_iff.1 hx).1
    omega
  · obtain ⟨A', c', e, _, _, hr, hg⟩ := ho.rd
    cases e
    obtain ⟨g, rfl, hbg⟩ := hg h0
    obtain ⟨b, off, e, hlt⟩ := hr.addr h0
    cases e
    refine ⟨g, by omega, hlt, fun _ => rfl, fun j x hx => ⟨?_, ho.frozen j⟩⟩
    obtain ⟨b, off, e, _, hc⟩ := hr.2 h0
    cases e
    have := hc j x hx
    rwa [Nat.zero_add] at this

set_option maxRecDepth 100000 in
set_option maxHeartbeats 2000000 in
theorem recordKeeps_walk (A : Option Addr) (len cap : Nat) (l : List (List UInt8)) (hcap : len ≤ cap) (hcm : cap ≤ maxLen) (w : World) (hI : LsAt w w.heap.size A len l) :
    Calls Try.prog 9 #[.slice A len cap] w fun e W' => e = .returned (.bool true) ∧ Below w.heap.size w W' := by
  have HF := Lib.hid (fun W h => dfew_any (w := W) (B := w.heap.size) (A := A) (len := len) (l := l) cap (by omega) h)
  obtain ⟨F, hF⟩ : ∃ F, fewL l = F := ⟨_, rfl⟩
  rw [hF] at HF
  cases F with
  | false =>
    clear hF
    go_enter Try.func9, Try.ntmps9
    go_wp2_with fail
    refine (awake_any _).mono ?_
    rintro e w1 ⟨rfl, hb1⟩
    go_wp2_with fail
    refine (HF.out _ (hI.below hb1)).mono ?_
    rintro e w2 ⟨rfl, rfl⟩
    go_wp2_with fail
    refine (awake_any _).mono ?_
    rintro e w2 ⟨rfl, hb2⟩
    go_wp2_with fail
    go_ret
    exact ⟨rfl, hb1.trans (hb2.mono hb1.size)⟩
  | true =>
    obtain ⟨hs, hl⟩ := fewL_yes hF
    have hsz := hI.size
    subst hsz
    have hr1 := rowOf_short l hs
    have hmax : ∀ xs ∈ l, xs.length ≤ 1048576 := fun xs hx => by have := hs xs hx; omega
    have HRow := Lib.hid (fun W h => drow_any A l.length cap l (by omega) hmax (by omega) W h)
    have hall := all_row l hmax
    obtain ⟨bs, hbs⟩ : ∃ bs, rowOf l = bs := ⟨_, rfl⟩
    rw [hbs] at HRow hall hr1
    have hbl : bs.length ≤ 6140 := by omega
    have HA := Lib.hid (fun A' c W (h1 : bs.length ≤ c) (h2 : c ≤ maxLen) h => all_any A' bs.length c bs (by omega) h1 h2 W h)
    rw [hall] at HA
    clear hF hs hr1 hmax hall hbs
    go_enter Try.func9, Try.ntmps9
    go_wp2_with fail
    refine (awake_any _).mono ?_
    rintro e w1 ⟨rfl, hb1⟩
    have z1 := hb1.size
    go_wp2_with fail
    refine (HF.out _ (hI.below hb1)).mono ?_
    rintro e w2 ⟨rfl, rfl⟩
    go_wp2_with fail
    refine (HRow.out _ ((hI.below hb1).more z1)).mono ?_
    rintro e w2 ⟨v2, rfl, ho2, hb2⟩
    obtain ⟨A2, m2, c2, rfl, hm2, hmc2, hcm2, hr2⟩ := ho2.sl
    subst hm2
    have B2 := hb1.trans (hb2.mono z1)
    have z2 := B2.size
    have how0 := empty8 (base := w2.heap.size) w2 (Nat.le_refl _)
    clear ho2 hmc2 hcm2 hb1 hb2
    go_wp2_with (at_builtin; refine wpList_append8 rfl _ _ rfl w2.heap.size _ [] (by rfl) how0 _ _ _ _ bs (by rfl) (hr2.alloc (Nat.le_refl _) _) (by simp; omega) (by simp) ?_; intro v3 w3 ho3 hg3 _)
    have hb3 := ((Below.refl w2.heap.size w2).alloc (Nat.le_refl _) (.cells #[] 5)).grown hg3 (by simp) how0.lt
    have B3 := B2.trans (hb3.mono z2)
    rw [List.nil_append] at ho3
    obtain ⟨A3, m3, c3, rfl, hm3, hmc3, hcm3, hr3⟩ := ho3.sl
    subst hm3
    have z3 : w2.heap.size + 1 ≤ w3.heap.size := by have := hg3.size; simpa using this
    have hr2 := (hr2.below hb3)
    clear how0 hg3
    refine (HA.out A3 c3 w3 hmc3 hcm3 hr3).mono ?_
    rintro e w4 ⟨v4, rfl, ho4, hb4⟩
    obtain ⟨A4, m4, c4, rfl, hm4, _, _, _⟩ := ho4.sl
    have hm4 : m4 = l.length := hm4
    subst hm4
    have ho4 : OwnL w4 w3.heap.size (.slice A4 l.length c4) l := ho4
    have B4 := B3.trans (hb4.mono B3.size)
    have z4 := B4.size
    have hr3 := hr3.below hb4
    have hr2 := (hr2.more (B' := w3.heap.size) (by omega)).below hb4
    go_wp2_with fail
    refine (same_any w4 c3 c2 hr3 hr2).mono ?_
    rintro e w5 ⟨rfl, rfl⟩
    obtain ⟨g, hg0, hg1, hA3, hcs⟩ := own_row ho3 rfl w2.heap.size w2.heap.size (Nat.le_refl _) (Nat.le_refl _) (by omega)
    have hX : w4.heap[g]? = w3.heap[g]? := hb4.block g hg1
    have HC := Lib.hid (show ∀ (j : Nat) (x : UInt8), bs[j]? = some x → w4.cell? ⟨g, j, none⟩ = some (v8 x) ∧ w4.frozen? ⟨g, j, none⟩ = false from fun j x hx => ⟨(World.cell?_of_block hX).trans (hcs j x hx).1, (World.frozen?_of_block hX).trans (hcs j x hx).2⟩)
    have HO := Lib.hid ho4
    have HB := Lib.hid B4
    have HI := Lib.hid hI
    clear hX hcs ho4 B4 hI ho3 hr2 hr3 B2 B3 hb3 hb4 hmc3 hcm3
    go_wp2_with fail
    go_loopw [8] (fun i wr => ∃ k : Nat, k ≤ bs.length ∧ i = .int .i64 (k : Int) ∧ w4.grownBy wr (some g) ∧ ∀ (j : Nat) (x : UInt8), k ≤ j → bs[j]? = some x → wr.cell? ⟨g, j, none⟩ = some (v8 x) ∧ wr.frozen? ⟨g, j, none⟩ = false)
      (fun i _ => bs.length - (intOf i).toNat)
    case atStart => exact ⟨0, Nat.zero_le _, rfl, World.grownBy.refl _ _, fun j x _ hx => HC.out j x hx⟩
    case round =>
      obtain ⟨k, hk, rfl, hgr, hcs⟩ := hrel
      by_cases hlt : k < bs.length
      · have hlt' : (k : Int) < (bs.length : Int) := by omega
        have hk0 : (0 : Int) ≤ (k : Int) := by omega
        obtain ⟨hc, hf⟩ := hcs k (bs[k]'hlt) (Nat.le_refl _) (List.getElem?_eq_getElem _)
        obtain ⟨x, hx⟩ : ∃ x, bs[k]'hlt = x := ⟨_, rfl⟩
        rw [hx] at hc
        unfold v8 at hc
        clear hx
        have HK := Lib.hid hcs
        clear hcs
        obtain rfl := hA3 (by omega)
        go_wp2_with fail
        go_roundw
        case rel =>
          refine ⟨k + 1, by omega, by go_num, gb_set hgr _ _, fun j y hj hy => ?_⟩
          obtain ⟨c1, c2⟩ := HK.out j y (by omega) hy
          rw [World.cell?_setCell_other _ _ _ _ (by intro e; cases e; omega), World.frozen?_setCell]
          exact ⟨c1, c2⟩
        case measure => simp [intOf]; omega
      · obtain rfl : k = bs.length := by omega
        clear hcs hA3
        have B6 : Below w.heap.size w wr := HB.out.grown hgr z4 (fun g' e => by cases e; omega)
        have ho6 := HO.out.kept hgr (fun b hb => by cases hb; exact hg1)
        have hI6 := HI.out.below B6
        go_wp2_with fail
        refine (dsame_any c4 cap (by omega) ho6.ls hI6).mono ?_
        rintro e w7 ⟨rfl, q, rfl⟩
        go_wp2_with fail
        go_ret
        exact ⟨rfl, below_drewN B6 q⟩

theorem recordKeeps_walks : WalksTrue 9 Try.f9 := by
  intro H enc W base args ds p hval hA
  rw [Try.params9] at hA hval
  obtain ⟨v0, vs0, d0, ds0, p0, q0, hargs, rfl, rfl, h0, r0⟩ := trodAll_cons hA
  obtain ⟨rfl, rfl, rfl⟩ := trodAll_nil r0
  obtain rfl : args = #[v0] := by cases args; simp_all
  obtain ⟨A0, len0, cap0, xs0, rfl, hc0, hm0, hI0⟩ := open_lists (hval 0 32 v0 rfl rfl) h0
  exact recordKeeps_walk A0 len0 cap0 xs0 hc0 hm0 W hI0

theorem recordKeeps_said : Rows.RecordKeepsSaid :=
  OpenClaim.holds_of_wide 9 Try.f9 rfl rfl rfl rfl rfl rfl rfl ⟨rfl, rfl, rfl, rfl, rfl⟩ rfl rfl rfl rfl rfl (by kernel_rfl) Try.func9 (by kernel_rfl)
    (of_decide_eq_true (by kernel_rfl)) (by unfold Func.isWrapper; first | (rw [if_pos (by decide +kernel)]; kernel_rfl) | (rw [if_neg (by decide +kernel)]; exact ⟨rfl, rfl⟩))
    (fun os started H enc _ => law_lift (s := Rows.recordKeepsSpec) Try.func9 (by kernel_rfl) rfl rfl (by intro H ds hd; match ds, hd with | [_], _ => exact ⟨rfl, rfl, rfl⟩) (by kernel_rfl) recordKeeps_walks os started H enc
      (ChangeSpec.witness6 (enc := enc) (C := Try.checked) false ⟨#[], #[.slice none 0 0], []⟩ 8 (by kernel_rfl) (by kernel_rfl) (by kernel_rfl) (by kernel_rfl)))

end Go.Proofs.Ytaabfhfiipmhcaa
