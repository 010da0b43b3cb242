/- What package fix's Text and the document's own give: the same numeral. -/
import Derived.Test.YtbomodendobnkaaGreatQ6
import Derived.Test.YtbomodendobnkaaGreatQ1
import Derived.Test.YtbomodendobnkaaGreatShelf
import Derived.Lib.AppendIntMem
import Derived.WalkSpells
import Derived.Laws.BytesString
import Derived.Test.YtbomodendobnkaaGreatQ5
import Derived.Deep.RegionHeld3
import Derived.Deep.RegionWith
namespace Go.Proofs.YtbomodendobnkaaGreat
open Go.ChangeShapes Go.WideShapes Go.ChangeAt Go.RowKit

/-- the table of the library's that Itoa reads stands -/
def Tab (w : World) : Prop := Lib.TabIs Tryz.prog w "internal/strconv.uint64pow10" .u64 Lib.pow10Tab
/-- the world went on: what was there stands -/
def Went (w w' : World) : Prop := Below w.heap.size w w'
theorem Went.refl (w : World) : Went w w := Below.refl _ _
theorem Went.trans {a b c : World} (h : Went a b) (k : Went b c) : Went a c := Below.trans h (Below.mono k (Below.size h))
theorem Went.same {a b c : World} (h : Went a b) (k : b = c) : Went a c := k ▸ h
theorem Went.of_drew {w w' : World} (h : Went w.drew w') : Went w w' := ⟨h.os, h.tape, h.output, h.size, h.block⟩
theorem Tab.on {w w' : World} (h : Tab w) (k : Went w w') : Tab w' := (Lib.tabBelow_of_tabIs h) w' k

/-- string([]byte{x}) -/
theorem conv_one (w : World) (x : Int) :
    (convert 92 9 (.slice (some ⟨w.heap.size, 0, none⟩) 1 1)).run Tryz.prog (w.alloc (.cells #[.int .u8 x] 5))
      = .ok (.string (ByteArray.empty.push (UInt8.ofNat x.toNat))) (w.alloc (.cells #[.int .u8 x] 5)) := by
  rw [run_convert_bytes_string _ _ _ 5 _ _ _ Tryz.underlying92 Tryz.underlying5 Tryz.underlying9]
  exact run_bytesToString (P := Tryz.prog) (w.alloc (.cells #[.int .u8 x] 5)) ⟨w.heap.size, 0, none⟩ 1 1 [x] (run_loadCells_list _ _ [.int .u8 x] (fun j v hj => by
    obtain ⟨rfl, rfl⟩ : j = 0 ∧ Value.int .u8 x = v := by
      have h1 := (List.getElem?_eq_some_iff.1 hj).1
      simp only [List.length_cons, List.length_nil] at h1
      obtain rfl : j = 0 := by omega
      exact ⟨rfl, by simpa using hj⟩
    go_simp))

/-- one digit more ahead -/
theorem digit_eq (v : Nat) : (48 : UInt8) + UInt8.ofNat (v % 10) = UInt8.ofNat (48 + v % 10) := by
  rw [UInt8.ofNat_add]; rfl
theorem push_data (c : UInt8) (b : ByteArray) : (ByteArray.empty.push c ++ b).data.toList = c :: b.data.toList := by
  rw [ByteArray.data_append]; simp [ByteArray.empty, ByteArray.emptyWithCapacity]; rfl
theorem txt_step {u v : Nat} {b : ByteArray} (h : ¬ v < 10) (H : Lib.decDigits u = Lib.decDigits v ++ b.data.toList) :
    Lib.decDigits u = Lib.decDigits (v / 10) ++ (ByteArray.empty.push (48 + UInt8.ofNat (v % 10)) ++ b).data.toList := by
  rw [H, Lib.decDigits, dif_neg h, push_data, digit_eq]; simp
theorem txt_end {u v : Nat} {b : ByteArray} (h : v < 10) (H : Lib.decDigits u = Lib.decDigits v ++ b.data.toList) :
    Lib.decDigits u = (ByteArray.empty.push (48 + UInt8.ofNat (v % 10)) ++ b).data.toList := by
  rw [H, Lib.decDigits, dif_pos h, push_data, digit_eq, Nat.mod_eq_of_lt h]; simp
theorem txt_len {u : Nat} (hu : (u : Int) ≤ 9223372036854775808) {l : List UInt8} {b : ByteArray} (H : Lib.decDigits u = l ++ b.data.toList) : b.size ≤ 20 := by
  have h1 := (FM.dec_len u (by omega)).2
  rw [H, List.length_append] at h1
  have : b.data.toList.length = b.size := by simp
  omega
theorem itoa_minus {n : Int} {u : Nat} (hn : n < 0) (hu : n.natAbs = u) {b : ByteArray} (h : Lib.decDigits u = b.data.toList) : (⟨#[45]⟩ ++ b : ByteArray) = ⟨(Lib.itoa n).toArray⟩ := by
  apply bytes_inj
  rw [Lib.itoa, if_pos hn, hu, h, ByteArray.data_append]; simp
theorem itoa_plain {n : Int} {u : Nat} (hn : ¬ n < 0) (hu : n.toNat = u) {b : ByteArray} (h : Lib.decDigits u = b.data.toList) : b = ⟨(Lib.itoa n).toArray⟩ := by
  apply bytes_inj
  rw [Lib.itoa, if_neg hn, hu, h]
theorem ret_s {a b : ByteArray} (h : a = b) : Ending.returned (.string a) = .returned (.string b) := by rw [h]

end Go.Proofs.YtbomodendobnkaaGreat

/- The reference's counts over data that can be read: how deep, how many parts; few enough for a statement. -/
namespace Go.Proofs.YtbomodendobnkaaGreat
open Go.ChangeShapes Go.WideShapes Go.ChangeAt Go.RowKit

namespace SM
theorem hi_len : ∀ (d : RM.Dl), 0 < d.len → 1 ≤ hi d
  | .nil, h => by simp [RM.Dl.len] at h
  | .cons k n s is r, _ => by unfold hi; omega
theorem hi_at {d : RM.Dl} {i : Nat} {x : RM.Dm} (h : d.at_ i = some x) : hi (dr d i) = max (hi x.is + 1) (hi (dr d (i + 1))) := by rw [dr_at d i x h]; rfl
theorem sz_at {d : RM.Dl} {i : Nat} {x : RM.Dm} (h : d.at_ i = some x) : sz (dr d i) = sz x.is + 1 + sz (dr d (i + 1)) := by rw [dr_at d i x h]; rfl
theorem hi_in : ∀ (d : RM.Dl) (i : Nat), hi (dr d i) ≤ hi d
  | d, 0 => by rw [dr_zero]; exact Nat.le_refl _
  | .nil, i + 1 => Nat.le_refl _
  | .cons k n s is r, i + 1 => by
    have := hi_in r i
    show hi (dr r i) ≤ max (hi is + 1) (hi r)
    omega
end SM
/-- how deep, as far as it is looked -/
def HiN (H : Nat) (far : Int) (w : World) (e : Ending) (w' : World) : Prop := ∃ y : Int, y = min ((H : Int) + 1) (far + 1) ∧ e = .returned (.int .i64 y) ∧ Went w w'
def HiOk (x : RM.Dm) : Prop := ∀ (w : World) (v : Value) (far : Int), In w v x.is → 0 ≤ far → far ≤ 100000 → Calls Tryz.prog 27 #[dtv x v, .int .i64 far] w (HiN (SM.hi x.is) far w)
def SzN (n : Int) (w : World) (e : Ending) (w' : World) : Prop := ∃ y : Int, y = min n 5000 ∧ e = .returned (.int .i64 y) ∧ Went w w'
def SzOk (x : RM.Dm) : Prop := ∀ (w : World) (v : Value) (n far : Int), In w v x.is → 0 ≤ n → n < 5000 → (SM.hi x.is : Int) ≤ far → far ≤ 100000 → Calls Tryz.prog 28 #[dtv x v, .int .i64 n, .int .i64 far] w (SzN (n + SM.sz x.is + 1) w)

set_option maxRecDepth 100000 in
set_option maxHeartbeats 4000000 in
theorem hi_step (k n : Int) (s : List UInt8) (is : RM.Dl) (hP : ∀ i x, is.at_ i = some x → HiOk x) : HiOk ⟨k, n, s, is⟩ := by
  intro w v far h1 hf0 hf1
  obtain ⟨A1, c1, rfl⟩ := h1.read
  have hlen := h1.len
  simp only at h1 hlen ⊢
  unfold dtv
  simp only
  obtain ⟨N, hN⟩ : ∃ N, is.len = N := ⟨_, rfl⟩
  obtain ⟨H, hH⟩ : ∃ H, SM.hi is = H := ⟨_, rfl⟩
  rw [hN] at h1 hlen ⊢
  rw [hH]
  have hpos : N = 0 → H = 0 := fun h => by
    rw [h] at hN
    have := SM.dr_end is 0 (by omega)
    rw [SM.dr_zero] at this
    rw [← hH, this]; rfl
  have hN' := Lib.hid hN
  have hH' := Lib.hid hH
  have hP' := Lib.hid hP
  have hL1 := Lies.made w 24 #[.int .i64 k, .int .i64 n, .string ⟨s.toArray⟩, .slice A1 N c1]
  clear hN hP hH
  by_cases hf : 0 < far
  · go_enter Tryz.func27, Tryz.ntmps27
    go_wp2_with fail
    go_loopw [5, 6] (fun y i wr => ∃ (j R : Nat) (m : Int), j ≤ N ∧ i = .int .i64 j ∧ Hid (SM.hi (SM.dr is j) = R) ∧ max m (min (R : Int) far) = min (H : Int) far ∧ 0 ≤ m ∧ m ≤ far ∧ y = .int .i64 m ∧ Below w.heap.size w wr ∧ Lies wr w.heap.size 24 [.int .i64 k, .int .i64 n, .string ⟨s.toArray⟩, .slice A1 N c1]) (fun _ i _ => N - (intOf i).toNat)
    case atStart => exact ⟨0, H, 0, by omega, rfl, Lib.hid (by rw [SM.dr_zero]; exact hH'.out), by omega, by omega, by omega, rfl, (Below.refl _ w).alloc (Nat.le_refl _) _, hL1⟩
    case round =>
      obtain ⟨j, R, m, hj, rfl, hR, hm, hm0, hm1, rfl, hb, hM1⟩ := hrel
      clear hL1
      have y3 : wr.cell? ⟨w.heap.size, 3, none⟩ = some (.slice A1 N c1) := hM1.cell 3
      by_cases hlt : j < N
      · obtain ⟨x, hx⟩ := is.at_some j (by rw [hN'.out]; exact hlt)
        obtain ⟨b, o, B, q, rfl, hb0, p0, p1, p2, p3, hd1⟩ := (h1.below hb).at_ hx
        have hx' := Lib.hid (hP'.out j x hx)
        have hR0 := hR.out
        rw [SM.hi_at hx] at hR0
        obtain ⟨R1, hR1⟩ : ∃ R1, SM.hi (SM.dr is (j + 1)) = R1 := ⟨_, rfl⟩
        obtain ⟨X, hX⟩ : ∃ X, SM.hi x.is = X := ⟨_, rfl⟩
        rw [hR1, hX] at hR0
        have hR1' := Lib.hid hR1
        have hX' := Lib.hid hX
        clear hx hR1 hX
        go_wp2_with (
          go_at_call 27
          refine (hx'.out wr (.slice B x.is.len q) (far - 1) hd1 (by omega) (by omega)).mono ?_
          rw [hX'.out]
          rintro e w5 ⟨y5, h50, rfl, hb5⟩
          have h50' := Lib.hid h50
          clear h50
          have hM3 := hM1.below hb5 hM1.lt
          have hb6 : Below w.heap.size w w5 := hb.trans (hb5.mono hb.size)
          clear p0 p1 p2 p3 y3 hb5)
        all_goals
          have h50 := h50'.out
          go_roundw
          case rel => exact ⟨j + 1, R1, _, by omega, by go_num, hR1', by omega, by omega, by omega, rfl, hb6, hM3⟩
          case measure => simp [intOf]; omega
      · obtain rfl : j = N := by omega
        have hR0 := hR.out
        rw [SM.dr_end is j (by rw [hN'.out]; exact Nat.le_refl _)] at hR0
        have hR1 : R = 0 := hR0.symm
        go_wp2_with fail
        go_ret
        exact ⟨m + 1, by omega, rfl, hb⟩
  · go_enter Tryz.func27, Tryz.ntmps27
    go_wp2_with fail
    go_ret
    exact ⟨1, by omega, rfl, (Below.refl _ w).alloc (Nat.le_refl _) _⟩
theorem hi_any (x : RM.Dm) : HiOk x := RM.Dl.all_of HiOk hi_step (.one x) 0 x (by cases x; rfl)

set_option maxRecDepth 100000 in
set_option maxHeartbeats 4000000 in
theorem sz_step (k n : Int) (s : List UInt8) (is : RM.Dl) (hP : ∀ i x, is.at_ i = some x → SzOk x) : SzOk ⟨k, n, s, is⟩ := by
  intro w v n0 far h1 hn0 hn1 hf0 hf1
  obtain ⟨A1, c1, rfl⟩ := h1.read
  have hlen := h1.len
  simp only at h1 hf0 hlen ⊢
  unfold dtv
  simp only
  obtain ⟨N, hN⟩ : ∃ N, is.len = N := ⟨_, rfl⟩
  obtain ⟨H, hH⟩ : ∃ H, SM.hi is = H := ⟨_, rfl⟩
  obtain ⟨Z, hZ⟩ : ∃ Z, SM.sz is = Z := ⟨_, rfl⟩
  rw [hN] at h1 hlen ⊢
  rw [hH] at hf0
  rw [hZ]
  have hfar : 0 < N → 0 < far := fun h => by
    have := SM.hi_len is (by omega)
    omega
  have hN' := Lib.hid hN
  have hH' := Lib.hid hH
  have hZ' := Lib.hid hZ
  have hP' := Lib.hid hP
  have hL1 := Lies.made w 24 #[.int .i64 k, .int .i64 n, .string ⟨s.toArray⟩, .slice A1 N c1]
  clear hN hP hH hZ
  go_enter Tryz.func28, Tryz.ntmps28
  go_wp2_with fail
  go_loopw [1, 7] (fun y i wr => ∃ (j R : Nat) (m : Int), j ≤ N ∧ i = .int .i64 j ∧ Hid (SM.sz (SM.dr is j) = R) ∧ min (m + (R : Int)) 5000 = min (n0 + (Z : Int) + 1) 5000 ∧ 0 ≤ m ∧ m ≤ 5000 ∧ y = .int .i64 m ∧ Below w.heap.size w wr ∧ Lies wr w.heap.size 24 [.int .i64 k, .int .i64 n, .string ⟨s.toArray⟩, .slice A1 N c1]) (fun _ i _ => N - (intOf i).toNat)
  case atStart => exact ⟨0, Z, n0 + 1, by omega, rfl, Lib.hid (by rw [SM.dr_zero]; exact hZ'.out), by omega, by omega, by omega, rfl, (Below.refl _ w).alloc (Nat.le_refl _) _, hL1⟩
  case round =>
    obtain ⟨j, R, m, hj, rfl, hR, hm, hm0, hm1, rfl, hb, hM1⟩ := hrel
    clear hL1
    have y3 : wr.cell? ⟨w.heap.size, 3, none⟩ = some (.slice A1 N c1) := hM1.cell 3
    by_cases hlt : j < N ∧ m < 5000
    · obtain ⟨hlt, hmm⟩ := hlt
      have hff := hfar (by omega)
      obtain ⟨x, hx⟩ := is.at_some j (by rw [hN'.out]; exact hlt)
      obtain ⟨b, o, B, q, rfl, hb0, p0, p1, p2, p3, hd1⟩ := (h1.below hb).at_ hx
      have hx' := Lib.hid (hP'.out j x hx)
      have hR0 := hR.out
      rw [SM.sz_at hx] at hR0
      have hup : SM.hi x.is + 1 ≤ H := by
        have h2 := SM.hi_at hx
        have h3 := SM.hi_in is j
        rw [hH'.out] at h3
        omega
      obtain ⟨R1, hR1⟩ : ∃ R1, SM.sz (SM.dr is (j + 1)) = R1 := ⟨_, rfl⟩
      obtain ⟨X, hX⟩ : ∃ X, SM.sz x.is = X := ⟨_, rfl⟩
      obtain ⟨Y, hY⟩ : ∃ Y, SM.hi x.is = Y := ⟨_, rfl⟩
      rw [hR1, hX] at hR0
      rw [hY] at hup
      have hR1' := Lib.hid hR1
      have hX' := Lib.hid hX
      have hY' := Lib.hid hY
      clear hx hR1 hX hY
      go_wp2_with (
        go_at_call 28
        refine (hx'.out wr (.slice B x.is.len q) m (far - 1) hd1 (by omega) (by omega) (by rw [hY'.out]; omega) (by omega)).mono ?_
        rw [hX'.out]
        rintro e w5 ⟨y5, h50, rfl, hb5⟩
        have h50' := Lib.hid h50
        clear h50
        have hM3 := hM1.below hb5 hM1.lt
        have hb6 : Below w.heap.size w w5 := hb.trans (hb5.mono hb.size)
        clear p0 p1 p2 p3 y3 hb5)
      have h50 := h50'.out
      go_roundw
      case rel => exact ⟨j + 1, R1, y5, by omega, by go_num, hR1', by omega, by omega, by omega, rfl, hb6, hM3⟩
      case measure => simp [intOf]; omega
    · by_cases hj2 : j < N
      · have hff := hfar (by omega)
        have hmm : m = 5000 := by omega
        clear hlt
        go_wp2_with fail
        all_goals
          go_ret
          exact ⟨5000, by omega, by first | rfl | (congr 2; omega), hb⟩
      · clear hlt
        obtain rfl : j = N := by omega
        have hR0 := hR.out
        rw [SM.dr_end is j (by rw [hN'.out]; exact Nat.le_refl _)] at hR0
        have hR1 : R = 0 := hR0.symm
        go_wp2_with fail
        all_goals
          go_ret
          exact ⟨_, by omega, rfl, hb⟩
theorem sz_any (x : RM.Dm) : SzOk x := RM.Dl.all_of SzOk sz_step (.one x) 0 x (by cases x; rfl)
set_option maxRecDepth 100000 in
theorem rparts_any (x : RM.Dm) (w : World) (v : Value) (h : In w v x.is) (hf : (SM.hi x.is : Int) ≤ 100000) : Calls Tryz.prog 15 #[dtv x v] w (SzN (SM.sz x.is + 1) w) := by
  obtain ⟨A1, c1, rfl⟩ := h.read
  obtain ⟨Z, hZ⟩ : ∃ Z, SM.sz x.is = Z := ⟨_, rfl⟩
  have hC := Lib.hid (fun w' (hb : Below w.heap.size w w') => sz_any x w' (.slice A1 x.is.len c1) 0 100000 (h.below hb) (by omega) (by omega) hf (by omega))
  unfold dtv at hC ⊢
  rw [hZ] at hC ⊢
  have hb0 : Below w.heap.size w (w.alloc (.cells #[.int .i64 x.k, .int .i64 x.n, .string ⟨x.s.toArray⟩, .slice A1 x.is.len c1] 24)) := (Below.refl _ w).alloc (Nat.le_refl _) _
  go_enter Tryz.func15, Tryz.ntmps15
  go_wp2_with (
    go_at_call 28
    refine (hC.out _ hb0).mono ?_
    rintro e w5 ⟨y5, h50, rfl, hb5⟩
    have h50' := Lib.hid h50
    clear h50)
  have h50 := h50'.out
  go_ret
  exact ⟨y5, by omega, rfl, hb0.trans (hb5.mono (by simp))⟩
end Go.Proofs.YtbomodendobnkaaGreat
