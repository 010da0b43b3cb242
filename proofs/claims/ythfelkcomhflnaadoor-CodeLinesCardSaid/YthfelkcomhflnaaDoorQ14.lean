/- slices.Clone of terms, of data, of ints: a row of one's own, of the same cells. -/
import Derived.Test.YthfelkcomhflnaaDoorQ10
import Derived.Laws.AppendOwn
import Derived.Lib.SliceRun
import Derived.Lib.Hide
import Derived.Test.YthfelkcomhflnaaDoorQ8
import Derived.Test.YthfelkcomhflnaaDoorQ9
import Derived.Test.YthfelkcomhflnaaDoorQ2
import Derived.Deep.RegionHeld3
import Derived.Deep.RegionWith
namespace Go.Proofs.YthfelkcomhflnaaDoor
open Go.ChangeShapes Go.WideShapes Go.ChangeAt Go.RowKit Go.Deep
open TM (Tl Tm)

/-- a row's cells, as they lie where they can be read -/
def Raw (w : World) (A : Option Addr) (n sz : Nat) (cs : List Value) : Prop := cs.length = n * sz ∧ (A = none → n = 0) ∧ (∀ a, A = some a → ∀ j u, cs[j]? = some u → w.cell? (a.add j) = some u) ∧ ∀ u ∈ cs, u.oneCell' = true

set_option maxRecDepth 100000 in
set_option maxHeartbeats 2000000 in
theorem cloneI (A : Option Addr) (n c : Nat) (cs : List Value) (w : World) (h : Raw w A n 1 cs) (hn : n ≤ 1000000) :
    Calls Tryd.prog 42 #[.slice A n c] w fun e w' => ∃ v', e = .returned v' ∧ w'.ownsRow w.heap.size 3 1 v' n cs ∧ Below w.heap.size w w' := by
  obtain ⟨h1, h2, h3, h4⟩ := h
  cases A with
  | none =>
    obtain rfl := h2 rfl
    have hcs : cs = [] := List.eq_nil_of_length_eq_zero (by simpa using h1)
    subst hcs
    have hq : ∀ (w : World) (a : Option Addr) (n c n' c' : Nat), (binOp .eql 36 (.slice a n c) (.slice none n' c')).run Tryd.prog w = .ok (.bool a.isNone) w := fun w a n c n' c' => Lib.run_eql_slice_nil w _ _ a n c n' c' Tryd.underlying36
    clear h1 h2 h3 h4 hn
    go_enter Tryd.func42, Tryd.ntmps42
    go_wp2
    go_ret
    exact ⟨_, rfl, own_none _ _ _ _, Below.refl _ _⟩
  | some a =>
    obtain ⟨i0, hi, hz0, hz1, hz2⟩ := info_parts Tryd.infoInt
    have hq : ∀ (w : World) (a : Option Addr) (n c n' c' : Nat), (binOp .eql 36 (.slice a n c) (.slice none n' c')).run Tryd.prog w = .ok (.bool a.isNone) w := fun w a n c n' c' => Lib.run_eql_slice_nil w _ _ a n c n' c' Tryd.underlying36
    have h1' := Lib.hid h1
    have h3' := Lib.hid (h3 a rfl)
    have h4' := Lib.hid h4
    have hi' := Lib.hid hi
    have hz0' := Lib.hid hz0
    have hz1' := Lib.hid hz1
    have hz2' := Lib.hid hz2
    clear h1 h2 h3 h4 hi hz0 hz1 hz2
    go_enter Tryd.func42, Tryd.ntmps42
    go_wp2_with (
      at_builtin
      refine _root_.Go.wpList_append_own _ rfl _ _ 36 rfl w.heap.size 3 i0 _ 1 8 Tryd.underlying36 hi'.out hz0'.out hz1'.out hz2'.out (by rfl) (by decide) _ _ _ rfl (World.ownsRow_made w #[] 0 (Nat.le_refl _) (Nat.zero_le _) (by simp)) a n c cs rfl h1'.out ?qc2 h4'.out (by unfold maxLen; omega) (by omega) (by simp) ?qk)
    case qc2 => exact fun j u hj => Lib.cell?_alloc_some _ (h3'.out j u hj)
    case qk =>
      intro v' w1 hown hgrow hnil
      clear hnil
      have hb : Below w.heap.size w w1 := ((Below.refl _ w).alloc (Nat.le_refl _) _).grown hgrow (by simp) (by intro k hk; simp [Value.ownBlock] at hk; omega)
      have hown' := Lib.hid hown
      clear hown hgrow
      go_wp2
      go_ret
      exact ⟨v', rfl, by simpa using hown'.out, hb⟩
end Go.Proofs.YthfelkcomhflnaaDoor

/- The reference's counts over data that can be read: how deep, how many parts; few enough for a statement. -/
namespace Go.Proofs.YthfelkcomhflnaaDoor
open Go.ChangeShapes Go.WideShapes Go.ChangeAt Go.RowKit

namespace SM
theorem hi_len : ∀ (d : RM.Dl), 0 < d.len → 1 ≤ hi d
  | .nil, h => by simp [RM.Dl.len] at h
  | .cons k n s is r, _ => by unfold hi; omega
theorem hi_at {d : RM.Dl} {i : Nat} {x : RM.Dm} (h : d.at_ i = some x) : hi (dr d i) = max (hi x.is + 1) (hi (dr d (i + 1))) := by rw [dr_at d i x h]; rfl
theorem sz_at {d : RM.Dl} {i : Nat} {x : RM.Dm} (h : d.at_ i = some x) : sz (dr d i) = sz x.is + 1 + sz (dr d (i + 1)) := by rw [dr_at d i x h]; rfl
theorem hi_in : ∀ (d : RM.Dl) (i : Nat), hi (dr d i) ≤ hi d
  | d, 0 => by rw [dr_zero]; exact Nat.le_refl _
  | .nil, i + 1 => Nat.le_refl _
  | .cons k n s is r, i + 1 => by
    have := hi_in r i
    show hi (dr r i) ≤ max (hi is + 1) (hi r)
    omega
end SM
/-- how deep, as far as it is looked -/
def HiN (H : Nat) (far : Int) (w : World) (e : Ending) (w' : World) : Prop := ∃ y : Int, y = min ((H : Int) + 1) (far + 1) ∧ e = .returned (.int .i64 y) ∧ Went w w'
def HiOk (x : RM.Dm) : Prop := ∀ (w : World) (v : Value) (far : Int), In w v x.is → 0 ≤ far → far ≤ 100000 → Calls Tryd.prog 28 #[dtv x v, .int .i64 far] w (HiN (SM.hi x.is) far w)
def SzN (n : Int) (w : World) (e : Ending) (w' : World) : Prop := ∃ y : Int, y = min n 5000 ∧ e = .returned (.int .i64 y) ∧ Went w w'
def SzOk (x : RM.Dm) : Prop := ∀ (w : World) (v : Value) (n far : Int), In w v x.is → 0 ≤ n → n < 5000 → (SM.hi x.is : Int) ≤ far → far ≤ 100000 → Calls Tryd.prog 29 #[dtv x v, .int .i64 n, .int .i64 far] w (SzN (n + SM.sz x.is + 1) w)

set_option maxRecDepth 100000 in
set_option maxHeartbeats 4000000 in
theorem hi_step (k n : Int) (s : List UInt8) (is : RM.Dl) (hP : ∀ i x, is.at_ i = some x → HiOk x) : HiOk ⟨k, n, s, is⟩ := by
  intro w v far h1 hf0 hf1
  obtain ⟨A1, c1, rfl⟩ := h1.read
  have hlen := h1.len
  simp only at h1 hlen ⊢
  unfold dtv
  simp only
  obtain ⟨N, hN⟩ : ∃ N, is.len = N := ⟨_, rfl⟩
  obtain ⟨H, hH⟩ : ∃ H, SM.hi is = H := ⟨_, rfl⟩
  rw [hN] at h1 hlen ⊢
  rw [hH]
  have hpos : N = 0 → H = 0 := fun h => by
    rw [h] at hN
    have := SM.dr_end is 0 (by omega)
    rw [SM.dr_zero] at this
    rw [← hH, this]; rfl
  have hN' := Lib.hid hN
  have hH' := Lib.hid hH
  have hP' := Lib.hid hP
  have hL1 := Lies.made w 42 #[.int .i64 k, .int .i64 n, .string ⟨s.toArray⟩, .slice A1 N c1]
  clear hN hP hH
  by_cases hf : 0 < far
  · go_enter Tryd.func28, Tryd.ntmps28
    go_wp2_with fail
    go_loopw [5, 6] (fun y i wr => ∃ (j R : Nat) (m : Int), j ≤ N ∧ i = .int .i64 j ∧ Hid (SM.hi (SM.dr is j) = R) ∧ max m (min (R : Int) far) = min (H : Int) far ∧ 0 ≤ m ∧ m ≤ far ∧ y = .int .i64 m ∧ Below w.heap.size w wr ∧ Lies wr w.heap.size 42 [.int .i64 k, .int .i64 n, .string ⟨s.toArray⟩, .slice A1 N c1]) (fun _ i _ => N - (intOf i).toNat)
    case atStart => exact ⟨0, H, 0, by omega, rfl, Lib.hid (by rw [SM.dr_zero]; exact hH'.out), by omega, by omega, by omega, rfl, (Below.refl _ w).alloc (Nat.le_refl _) _, hL1⟩
    case round =>
      obtain ⟨j, R, m, hj, rfl, hR, hm, hm0, hm1, rfl, hb, hM1⟩ := hrel
      clear hL1
      have y3 : wr.cell? ⟨w.heap.size, 3, none⟩ = some (.slice A1 N c1) := hM1.cell 3
      by_cases hlt : j < N
      · obtain ⟨x, hx⟩ := is.at_some j (by rw [hN'.out]; exact hlt)
        obtain ⟨b, o, B, q, rfl, hb0, p0, p1, p2, p3, hd1⟩ := (h1.below hb).at_ hx
        have hx' := Lib.hid (hP'.out j x hx)
        have hR0 := hR.out
        rw [SM.hi_at hx] at hR0
        obtain ⟨R1, hR1⟩ : ∃ R1, SM.hi (SM.dr is (j + 1)) = R1 := ⟨_, rfl⟩
        obtain ⟨X, hX⟩ : ∃ X, SM.hi x.is = X := ⟨_, rfl⟩
        rw [hR1, hX] at hR0
        have hR1' := Lib.hid hR1
        have hX' := Lib.hid hX
        clear hx hR1 hX
        go_wp2_with (
          go_at_call 28
          refine (hx'.out wr (.slice B x.is.len q) (far - 1) hd1 (by omega) (by omega)).mono ?_
          rw [hX'.out]
          rintro e w5 ⟨y5, h50, rfl, hb5⟩
          have h50' := Lib.hid h50
          clear h50
          have hM3 := hM1.below hb5 hM1.lt
          have hb6 : Below w.heap.size w w5 := hb.trans (hb5.mono hb.size)
          clear p0 p1 p2 p3 y3 hb5)
        all_goals
          have h50 := h50'.out
          go_roundw
          case rel => exact ⟨j + 1, R1, _, by omega, by go_num, hR1', by omega, by omega, by omega, rfl, hb6, hM3⟩
          case measure => simp [intOf]; omega
      · obtain rfl : j = N := by omega
        have hR0 := hR.out
        rw [SM.dr_end is j (by rw [hN'.out]; exact Nat.le_refl _)] at hR0
        have hR1 : R = 0 := hR0.symm
        go_wp2_with fail
        go_ret
        exact ⟨m + 1, by omega, rfl, hb⟩
  · go_enter Tryd.func28, Tryd.ntmps28
    go_wp2_with fail
    go_ret
    exact ⟨1, by omega, rfl, (Below.refl _ w).alloc (Nat.le_refl _) _⟩
theorem hi_any (x : RM.Dm) : HiOk x := RM.Dl.all_of HiOk hi_step (.one x) 0 x (by cases x; rfl)

set_option maxRecDepth 100000 in
set_option maxHeartbeats 4000000 in
theorem sz_step (k n : Int) (s : List UInt8) (is : RM.Dl) (hP : ∀ i x, is.at_ i = some x → SzOk x) : SzOk ⟨k, n, s, is⟩ := by
  intro w v n0 far h1 hn0 hn1 hf0 hf1
  obtain ⟨A1, c1, rfl⟩ := h1.read
  have hlen := h1.len
  simp only at h1 hf0 hlen ⊢
  unfold dtv
  simp only
  obtain ⟨N, hN⟩ : ∃ N, is.len = N := ⟨_, rfl⟩
  obtain ⟨H, hH⟩ : ∃ H, SM.hi is = H := ⟨_, rfl⟩
  obtain ⟨Z, hZ⟩ : ∃ Z, SM.sz is = Z := ⟨_, rfl⟩
  rw [hN] at h1 hlen ⊢
  rw [hH] at hf0
  rw [hZ]
  have hfar : 0 < N → 0 < far := fun h => by
    have := SM.hi_len is (by omega)
    omega
  have hN' := Lib.hid hN
  have hH' := Lib.hid hH
  have hZ' := Lib.hid hZ
  have hP' := Lib.hid hP
  have hL1 := Lies.made w 42 #[.int .i64 k, .int .i64 n, .string ⟨s.toArray⟩, .slice A1 N c1]
  clear hN hP hH hZ
  go_enter Tryd.func29, Tryd.ntmps29
  go_wp2_with fail
  go_loopw [1, 7] (fun y i wr => ∃ (j R : Nat) (m : Int), j ≤ N ∧ i = .int .i64 j ∧ Hid (SM.sz (SM.dr is j) = R) ∧ min (m + (R : Int)) 5000 = min (n0 + (Z : Int) + 1) 5000 ∧ 0 ≤ m ∧ m ≤ 5000 ∧ y = .int .i64 m ∧ Below w.heap.size w wr ∧ Lies wr w.heap.size 42 [.int .i64 k, .int .i64 n, .string ⟨s.toArray⟩, .slice A1 N c1]) (fun _ i _ => N - (intOf i).toNat)
  case atStart => exact ⟨0, Z, n0 + 1, by omega, rfl, Lib.hid (by rw [SM.dr_zero]; exact hZ'.out), by omega, by omega, by omega, rfl, (Below.refl _ w).alloc (Nat.le_refl _) _, hL1⟩
  case round =>
    obtain ⟨j, R, m, hj, rfl, hR, hm, hm0, hm1, rfl, hb, hM1⟩ := hrel
    clear hL1
    have y3 : wr.cell? ⟨w.heap.size, 3, none⟩ = some (.slice A1 N c1) := hM1.cell 3
    by_cases hlt : j < N ∧ m < 5000
    · obtain ⟨hlt, hmm⟩ := hlt
      have hff := hfar (by omega)
      obtain ⟨x, hx⟩ := is.at_some j (by rw [hN'.out]; exact hlt)
      obtain ⟨b, o, B, q, rfl, hb0, p0, p1, p2, p3, hd1⟩ := (h1.below hb).at_ hx
      have hx' := Lib.hid (hP'.out j x hx)
      have hR0 := hR.out
      rw [SM.sz_at hx] at hR0
      have hup : SM.hi x.is + 1 ≤ H := by
        have h2 := SM.hi_at hx
        have h3 := SM.hi_in is j
        rw [hH'.out] at h3
        omega
      obtain ⟨R1, hR1⟩ : ∃ R1, SM.sz (SM.dr is (j + 1)) = R1 := ⟨_, rfl⟩
      obtain ⟨X, hX⟩ : ∃ X, SM.sz x.is = X := ⟨_, rfl⟩
      obtain ⟨Y, hY⟩ : ∃ Y, SM.hi x.is = Y := ⟨_, rfl⟩
      rw [hR1, hX] at hR0
      rw [hY] at hup
      have hR1' := Lib.hid hR1
      have hX' := Lib.hid hX
      have hY' := Lib.hid hY
      clear hx hR1 hX hY
      go_wp2_with (
        go_at_call 29
        refine (hx'.out wr (.slice B x.is.len q) m (far - 1) hd1 (by omega) (by omega) (by rw [hY'.out]; omega) (by omega)).mono ?_
        rw [hX'.out]
        rintro e w5 ⟨y5, h50, rfl, hb5⟩
        have h50' := Lib.hid h50
        clear h50
        have hM3 := hM1.below hb5 hM1.lt
        have hb6 : Below w.heap.size w w5 := hb.trans (hb5.mono hb.size)
        clear p0 p1 p2 p3 y3 hb5)
      have h50 := h50'.out
      go_roundw
      case rel => exact ⟨j + 1, R1, y5, by omega, by go_num, hR1', by omega, by omega, by omega, rfl, hb6, hM3⟩
      case measure => simp [intOf]; omega
    · by_cases hj2 : j < N
      · have hff := hfar (by omega)
        have hmm : m = 5000 := by omega
        clear hlt
        go_wp2_with fail
        all_goals
          go_ret
          exact ⟨5000, by omega, by first | rfl | (congr 2; omega), hb⟩
      · clear hlt
        obtain rfl : j = N := by omega
        have hR0 := hR.out
        rw [SM.dr_end is j (by rw [hN'.out]; exact Nat.le_refl _)] at hR0
        have hR1 : R = 0 := hR0.symm
        go_wp2_with fail
        all_goals
          go_ret
          exact ⟨_, by omega, rfl, hb⟩
theorem sz_any (x : RM.Dm) : SzOk x := RM.Dl.all_of SzOk sz_step (.one x) 0 x (by cases x; rfl)
set_option maxRecDepth 100000 in
theorem rparts_any (x : RM.Dm) (w : World) (v : Value) (h : In w v x.is) (hf : (SM.hi x.is : Int) ≤ 100000) : Calls Tryd.prog 17 #[dtv x v] w (SzN (SM.sz x.is + 1) w) := by
  obtain ⟨A1, c1, rfl⟩ := h.read
  obtain ⟨Z, hZ⟩ : ∃ Z, SM.sz x.is = Z := ⟨_, rfl⟩
  have hC := Lib.hid (fun w' (hb : Below w.heap.size w w') => sz_any x w' (.slice A1 x.is.len c1) 0 100000 (h.below hb) (by omega) (by omega) hf (by omega))
  unfold dtv at hC ⊢
  rw [hZ] at hC ⊢
  have hb0 : Below w.heap.size w (w.alloc (.cells #[.int .i64 x.k, .int .i64 x.n, .string ⟨x.s.toArray⟩, .slice A1 x.is.len c1] 42)) := (Below.refl _ w).alloc (Nat.le_refl _) _
  go_enter Tryd.func17, Tryd.ntmps17
  go_wp2_with (
    go_at_call 29
    refine (hC.out _ hb0).mono ?_
    rintro e w5 ⟨y5, h50, rfl, hb5⟩
    have h50' := Lib.hid h50
    clear h50)
  have h50 := h50'.out
  go_ret
  exact ⟨y5, by omega, rfl, hb0.trans (hb5.mono (by simp))⟩
end Go.Proofs.YthfelkcomhflnaaDoor
