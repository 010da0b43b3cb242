/- Fill: a row of one word, so many times. -/
import Derived.Test.YtagedholocgahaaGreatDoorOCalls
import Derived.Laws.CopyOwn
import Derived.Deep.RegionLaw
import Derived.WalkSpells
namespace Go.Proofs.YtagedholocgahaaGreatDoor
open Go.ChangeShapes Go.WideShapes Go.ChangeAt Go.RowKit

theorem mul64_one (n : Nat) (hn : n ≤ 1000) (w : World) : Calls Tryz.prog 123 #[.int .u64 1, .int .u64 n] w fun e w' => e = .returned (.tuple #[.int .u64 0, .int .u64 n]) ∧ w = w' := by
  have e1 : bits .and .u64 (n : Int) 4294967295 = n := by
    have := and_low 32 (by omega) n (by omega) (by omega)
    rw [show bits .and .u64 (n : Int) 4294967295 = (n : Int) % 2 ^ 32 from this]
    omega
  have e2 : bits .and .u64 1 4294967295 = 1 := by decide
  have e3 : (n : Int) / 4294967296 = 0 := by omega
  have e4 : bits .and .u64 0 4294967295 = 0 := by decide
  go_enter Tryz.func123, Tryz.ntmps123
  go_wp2
  go_ret2
  exact ⟨rfl, rfl⟩
theorem mul_one (n : Nat) (hn : n ≤ 1000) (w : World) : Calls Tryz.prog 107 #[.int .u64 1, .int .u64 n] w fun e w' => e = .returned (.tuple #[.int .u64 0, .int .u64 n]) ∧ w = w' := by
  have MM := Lib.hid (fun w => mul64_one n hn w)
  go_enter Tryz.func107, Tryz.ntmps107
  go_wp2_with (go_at_call 123; refine (MM.out _).mono ?_; rintro e w' ⟨rfl, rfl⟩)
  go_ret2
  exact ⟨rfl, rfl⟩
/-- the first c are filled -/
def rp (x : Int) (n c : Nat) : List Int := List.replicate c x ++ List.replicate (n - c) 0
theorem rp_len {x : Int} {n c : Nat} (h : c ≤ n) : (rp x n c).length = n := by simp [rp]; omega
theorem rp_all (x : Int) (n : Nat) : rp x n n = List.replicate n x := by simp [rp]
theorem rp_zero (x : Int) (n : Nat) : rp x n 0 = List.replicate n 0 := by simp [rp]
theorem rp_copy {x : Int} {n c d : Nat} (h : c + d ≤ n) : splice ((rp x n c).map (Value.int .u64)) c (List.replicate d (.int .u64 x)) = (rp x n (c + d)).map (Value.int .u64) := by
  unfold splice rp
  apply List.ext_getElem?
  intro i
  simp [List.getElem?_append, List.getElem?_replicate, List.getElem?_drop]
  grind

set_option maxHeartbeats 1000000 in
set_option maxRecDepth 100000 in
theorem repeat_any (x : Int) (n g c : Nat) (hn : n ≤ 120) (w : World) (hx : w.cell? ⟨g, 0, none⟩ = some (.int .u64 x)) :
    Calls Tryz.prog 72 #[.slice (some ⟨g, 0, none⟩) 1 c, .int .i64 n] w fun e w' => e = .returned (.slice (some ⟨w.heap.size, 0, none⟩) n n) ∧ Lies w' w.heap.size 35 ((List.replicate n x).map (.int .u64)) ∧ Below w.heap.size w w' := by
  have MM := Lib.hid (fun w => mul_one n (by omega) w)
  have hmk := run_make_row' (P := Tryz.prog) 59 35 (.int .u64 0) 8 Tryz.underlying59 Tryz.infoU64 rfl .i64 .i64 n (by omega) (by omega)
  have hl := Lies.made w 35 (madeCells #[Value.int .u64 0] n)
  rw [made_zero, List.append_nil, ← rp_zero x] at hl
  have hb := (Below.refl w.heap.size w).alloc (Nat.le_refl _) (.cells (madeCells #[Value.int .u64 0] n) 35)
  have hglt : g < w.heap.size := by
    have := World.block_lt_of_cell? w ⟨g, 0, none⟩ hx
    simpa using this
  have hx1 : (w.alloc (.cells (madeCells #[Value.int .u64 0] n) 35)).cell? ⟨g, 0, none⟩ = some (.int .u64 x) := (World.cell?_of_block (((Turns.refl (fun _ => False) w).alloc _).block g hglt (fun h => h))).trans hx
  have hu : (Tryz.prog.info? 35).map (·.size) = some 1 := by
    have := Tryz.infoU64
    revert this
    cases Tryz.prog.info? 35 with
    | none => intro h; cases h
    | some i => intro h; simp at h ⊢; exact h.2.1
  have n0 : (0 : Int) ≤ n := by omega
  have n1 : IntKind.u64.wrap (n : Int) = n := by rw [IntKind.wrap_u64]; omega
  have hadd : ∀ (k o j : Nat), (⟨k, o, none⟩ : Addr).add j = ⟨k, o + j, none⟩ := fun k o j => by unfold Addr.add; split <;> simp_all
  have P1 : Hid (0 < (List.replicate (Nat.min 1 n) (Value.int .u64 x)).length → ∃ ad, some (⟨g, 0, none⟩ : Addr) = some ad ∧
      ∀ j v, (List.replicate (Nat.min 1 n) (Value.int .u64 x))[j]? = some v → (w.alloc (.cells (madeCells #[Value.int .u64 0] n) 35)).cell? (ad.add j) = some v) := fun hp => by
    refine ⟨_, rfl, fun j v hj => ?_⟩
    rw [List.getElem?_replicate] at hj
    split at hj
    · next h =>
      have : Nat.min 1 n ≤ 1 := Nat.min_le_left _ _
      obtain rfl : j = 0 := by omega
      obtain rfl := Option.some.inj hj
      rw [hadd]
      exact hx1
    · cases hj
  have hfit : 0 + (List.replicate (Nat.min 1 n) (Value.int .u64 x)).length ≤ ((rp x n 0).map (Value.int .u64)).length := by
    have : Nat.min 1 n ≤ n := Nat.min_le_right _ _
    simp [rp_len]
    exact this
  have hlen1 : (List.replicate (Nat.min 1 n) (Value.int .u64 x)).length = Nat.min 1 n := by simp
  have hone : ∀ d, ∀ v ∈ List.replicate d (Value.int .u64 x), v.oneCell' = true := fun d v hv => by rw [List.eq_of_mem_replicate hv]; rfl
  have HL := Lib.hid (show (w.alloc (.cells (madeCells #[Value.int .u64 0] n) 35)).heap[w.heap.size]? = some (.cells ((rp x n 0).map (Value.int .u64)).toArray 35 (0, 0)) from hl)
  have HB := Lib.hid hb
  clear hl hb hx hx1
  have FT := Lib.hid hfit
  have L1 := Lib.hid hlen1
  clear hfit hlen1
  go_enter Tryz.func72, Tryz.ntmps72
  go_wp2_with (first
    | (go_at_call 107; refine (MM.out _).mono ?_; rintro e w' ⟨rfl, rfl⟩)
    | (refine wpList_copy_splice rfl _ _ 59 59 rfl 35 Tryz.underlying59 hu (some ⟨w.heap.size, 0, none⟩) (some ⟨g, 0, none⟩) n n 1 c rfl rfl w.heap.size 0 ((rp x n 0).map (.int .u64)) 35 HL.out (List.replicate (Nat.min 1 n) (.int .u64 x)) L1.out (fun hp => ⟨rfl, P1.out hp⟩) FT.out (hone _) w.heap.size w HB.out (Nat.le_refl _) ?_; intro w2 HG2 hB2))
  have h0 : splice ((rp x n 0).map (Value.int .u64)) 0 (List.replicate (Nat.min 1 n) (Value.int .u64 x)) = (rp x n (Nat.min 1 n)).map (.int .u64) := by
    have := rp_copy (x := x) (n := n) (c := 0) (d := Nat.min 1 n) (by have : Nat.min 1 n ≤ n := Nat.min_le_right _ _; omega)
    rw [Nat.zero_add] at this
    exact this
  have hg2 := HG2.out
  rw [h0] at hg2
  have HG := Lib.hid hg2
  clear hg2 h0 HG2 HL HB P1 FT L1 hmk
  obtain ⟨c0, hc0⟩ : ∃ c0, Nat.min 1 n = c0 := ⟨_, rfl⟩
  have hc1 : c0 ≤ n ∧ (0 < n → 0 < c0) := by
    have e : Nat.min 1 n = min 1 n := rfl
    omega
  rw [hc0] at HG ⊢
  clear hc0
  go_loopw [8] (fun v wr => ∃ k : Nat, k ≤ n ∧ (0 < n → 0 < k) ∧ v = .int .i64 k ∧ Lies wr w.heap.size 35 ((rp x n k).map (.int .u64)) ∧ Below w.heap.size w wr) (fun v _ => n - (intOf v).toNat)
  case atStart => exact ⟨c0, hc1.1, hc1.2, by simp, HG.out, hB2⟩
  case round =>
    obtain ⟨k, hk, hk0, rfl, hl, hb⟩ := hrel
    by_cases hkn : k < n
    · have hmin : Nat.min k (n - k) = min k (n - k) := rfl
      obtain ⟨d, hd⟩ : ∃ d, Nat.min k (n - k) = d := ⟨_, rfl⟩
      have hd1 : d ≤ k ∧ k + d ≤ n ∧ 0 < d := by
        have := hk0 (by omega)
        omega
      have P2 : Hid (0 < (List.replicate d (Value.int .u64 x)).length → ∃ ad, some (⟨w.heap.size, 0, none⟩ : Addr) = some ad ∧
          ∀ j v, (List.replicate d (Value.int .u64 x))[j]? = some v → wr.drew.cell? (ad.add j) = some v) := fun hp => by
        refine ⟨_, rfl, fun j v hj => ?_⟩
        rw [List.getElem?_replicate] at hj
        split at hj
        · next h =>
          obtain rfl := Option.some.inj hj
          rw [hadd, hl.drew.cell, Nat.zero_add]
          simp [rp, List.getElem?_append, show j < k by omega]
        · cases hj
      have F2 : Hid (k + (List.replicate d (Value.int .u64 x)).length ≤ ((rp x n k).map (Value.int .u64)).length) := by
        unfold Hid
        simp [rp_len hk]
        omega
      have L2 : Hid ((List.replicate d (Value.int .u64 x)).length = Nat.min k (n - k)) := by
        unfold Hid
        rw [hd]
        simp
      obtain ⟨e, he⟩ : ∃ e : Nat, k + d = e := ⟨_, rfl⟩
      have hwr : IntKind.i64.wrap ((k : Int) + d) = e := by
        rw [IntKind.wrap_i64]
        omega
      have NX := Lib.hid (rp_copy (x := x) (n := n) (c := k) (d := d) hd1.2.1)
      rw [he] at NX
      have HL := Lib.hid (show wr.drew.heap[w.heap.size]? = some (.cells ((rp x n k).map (Value.int .u64)).toArray 35 (0, 0)) from hl)
      have HB : Hid (Below w.heap.size w wr.drew) := hb.trans ⟨rfl, rfl, rfl, Nat.le_refl _, fun _ _ => rfl⟩
      have k0 : (0 : Int) ≤ k := by omega
      have k1 : (k : Int) ≤ n := by omega
      have k2 : (k : Int) < n := by omega
      have k3 : n ≠ k := by omega
      clear hd hmin hl hb
      go_wp2_with fail
      go_region_law ((first | (refine step_copy_splice (w := wr.drew) (by rfl) (.tmp 41) (.tmp 44) 59 59 (by rfl) 35 Tryz.underlying59 hu (some ⟨w.heap.size, k, none⟩) (some ⟨w.heap.size, 0, none⟩) (n - k) (n - k) k n (by go_simp) (by go_simp) w.heap.size k ((rp x n k).map (.int .u64)) 35 HL.out (List.replicate d (.int .u64 x)) L2.out (fun hp => ⟨rfl, P2.out hp⟩) F2.out (hone _) w.heap.size w HB.out (Nat.le_refl _) ?_; intro w4 HG4 hB4)))
      have hg4 := HG4.out
      rw [NX.out] at hg4
      have HG5 := Lib.hid (show Lies w4 w.heap.size 35 ((rp x n e).map (.int .u64)) from hg4)
      clear hg4 HG4 HL NX L2 F2 P2
      go_wp2_with fail
      go_roundw
      case rel =>
        (repeat apply Exists.intro)
        exact ⟨⟨e, by omega, by omega, rfl, HG5.out, hB4⟩, rfl⟩
      case measure =>
        show n - (intOf (.int .i64 (e : Int))).toNat < n - (intOf (.int .i64 (k : Int))).toNat
        simp [intOf]
        omega
    · obtain rfl : k = n := by omega
      go_wp2_with fail
      go_ret
      rw [rp_all] at hl
      exact ⟨rfl, hl, hb⟩

section
variable {w w' : World} {q p b : Nat} {B : Int} {G : Geo} {M : Md} {tg : Nat → Int} {N : Nat} {K : Nat → Prop} {z : Nat}
theorem fill_long (q : Nat) (t n x : Int) (hn : n < 0 ∨ 120 < n) (w : World) :
    Calls Tryz.prog 38 #[.pointer (some ⟨q, 0, none⟩), .int .i64 t, .int .i64 n, .int .u64 x] w fun e w' => e = .returned (.tuple #[.int .u64 0, .iface 86 (.int .i64 14)]) ∧ w = w' := by
  rcases (show n < 0 ∨ (0 ≤ n ∧ 120 < n) by omega) with h | ⟨h, h'⟩
  all_goals
    clear hn
    go_enter Tryz.func38, Tryz.ntmps38
    go_wp2
    go_ret2
    exact ⟨rfl, rfl⟩
theorem fill_no (q : Nat) (t x : Int) (n : Nat) (hn : n ≤ 120) (ht : madeT t = false) (w : World) :
    Calls Tryz.prog 38 #[.pointer (some ⟨q, 0, none⟩), .int .i64 t, .int .i64 (n : Int), .int .u64 x] w fun e w' => e = .returned (.tuple #[.int .u64 0, .iface 86 (.int .i64 2)]) ∧ Below w.heap.size w w' := by
  have hw1 : Lies (w.alloc (.cells #[.int .u64 x] 35)) w.heap.size 35 [.int .u64 x] := Lies.made w _ _
  have RP := Lib.hid (repeat_any x n w.heap.size 1 hn _ (hw1.cell 0))
  have MK := Lib.hid (fun A w => make_no (A := A) q t n n (by unfold maxLen; omega) (fun h => by rw [ht] at h; exact absurd h.1 (by decide)) w)
  have n0 : (0 : Int) ≤ n := by omega
  have n1 : (n : Int) ≤ 120 := by omega
  have hb1 := (Below.refl w.heap.size w).alloc (Nat.le_refl _) (.cells #[.int .u64 x] 35)
  have HB1 := Lib.hid hb1
  clear hw1 ht hn hb1
  go_enter Tryz.func38, Tryz.ntmps38
  go_wp2_with (first
    | (go_at_call 72; refine RP.out.mono ?_; rintro e w1 ⟨rfl, hl1, hb1⟩)
    | (go_at_call 27; refine (MK.out _ _).mono ?_; rintro e w' ⟨rfl, rfl⟩))
  go_ret2
  exact ⟨rfl, HB1.out.trans (hb1.mono (by simp))⟩
/-- a filled object -/
theorem fill_of (o : Os w q p b B G M tg N K) (t : Int) (n : Nat) (x : Int) (hn : n ≤ 120) (ht : madeT t = true) (hx : (V.w x).ok) (hB : B + G.k.toNat ≤ 1000000000) (hN : (N : Int) < G.n.at_ (cln n)) :
    Calls Tryz.prog 38 #[.pointer (some ⟨q, 0, none⟩), .int .i64 t, .int .i64 (n : Int), .int .u64 x] w fun e w' => ∃ y : Int, e = .returned (.tuple #[.int .u64 (8 * y + 1), .nilIface]) ∧
      Os w' q p b (B + G.k.toNat) G (M.obj N 1 n y (List.replicate n (V.w x)) n) (tgs tg N t) (N + 1) (plus (Reach M) N) ∧ Turns (Own3 q p b) w w' := by
  have hlt := o.lt
  have hw1 : Lies (w.alloc (.cells #[.int .u64 x] 35)) w.heap.size 35 [.int .u64 x] := Lies.made w _ _
  have RP := Lib.hid (repeat_any x n w.heap.size 1 hn _ (hw1.cell 0))
  have MK : Hid (∀ w1, Lies w1 (w.alloc (.cells #[.int .u64 x] 35)).heap.size 35 ((List.replicate n x).map (.int .u64)) → Below (w.alloc (.cells #[.int .u64 x] 35)).heap.size (w.alloc (.cells #[.int .u64 x] 35)) w1 →
      Calls Tryz.prog 27 #[.pointer (some ⟨q, 0, none⟩), .int .i64 t, .slice (some ⟨(w.alloc (.cells #[.int .u64 x] 35)).heap.size, 0, none⟩) n n] w1 fun e w' => ∃ y : Int, e = .returned (.tuple #[.int .u64 (8 * y + 1), .nilIface]) ∧
        Os w' q p b (B + G.k.toNat) G (M.obj N 1 n y (List.replicate n (V.w x)) n) (tgs tg N t) (N + 1) (plus (Reach M) N) ∧ Turns (Own3 q p b) w1 w') := fun w1 hl1 hb1 => by
    have o1 := (o.alloc (.cells #[.int .u64 x] 35)).quiet (Turns.of_below hb1 (fun _ => False))
    refine make_of o1 t n n (List.replicate n (V.w x)) (by simp) ht hn hB hN (fun v hv => ?_) ?_
    · rw [List.eq_of_mem_replicate hv]
      exact ⟨hx, trivial⟩
    · rw [List.map_replicate]
      intro j hj
      refine ⟨_, 0, rfl, hl1.lt, fun h => by unfold Own3 at h; simp at h; omega, ?_⟩
      have hj' : j < n := by simpa using hj
      rw [hl1.cell, Nat.zero_add]
      simp [hj', V.wd]
  have n0 : (0 : Int) ≤ n := by omega
  have n1 : (n : Int) ≤ 120 := by omega
  have ht1 := (Turns.refl (Own3 q p b) w).alloc (.cells #[.int .u64 x] 35)
  have HT1 := Lib.hid ht1
  have e1 : Hid ((w.alloc (.cells #[.int .u64 x] 35)).heap.size = w.heap.size + 1) := by unfold Hid; simp
  rw [e1.out] at RP MK
  clear hw1 ht hn ht1 o
  go_enter Tryz.func38, Tryz.ntmps38
  go_wp2_with (first
    | (go_at_call 72; refine RP.out.mono ?_; rintro e w1 ⟨rfl, hl1, hb1⟩)
    | (go_at_call 27; refine (MK.out _ hl1 hb1).mono ?_; rintro e w2 ⟨y, rfl, ho2, ht2⟩))
  go_ret2
  refine ⟨y, rfl, ho2, (HT1.out.trans (Turns.of_below (hb1.mono ?_) _)).trans ht2⟩
  rw [e1.out]
  omega
end
end Go.Proofs.YtagedholocgahaaGreatDoor
