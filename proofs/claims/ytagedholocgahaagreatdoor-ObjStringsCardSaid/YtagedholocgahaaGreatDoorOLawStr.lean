/- The document's own words of a text. -/
import Derived.Test.YtagedholocgahaaGreatDoorOLawFill
namespace Go.Proofs.YtagedholocgahaaGreatDoor
open Go.ChangeShapes Go.WideShapes Go.ChangeAt Go.RowKit

/-- the document's words of the first n bytes -/
theorem pks_push (c : Nat → Int) (len m n : Nat) (h : n ≤ 8 * m) : pks c len m n ++ [0] = pks c len (m + 1) n := by
  unfold pks
  rw [List.range_succ, List.map_append, List.cons_append]
  congr 2
  simp
  rw [acc_none n m h]
theorem OwnW.stored {w : World} {B g n cap : Nat} {l : List Int} (h : OwnW w B (.slice (some ⟨g, 0, none⟩) n cap) l) (j : Nat) (x : Int) : OwnW (w.setCell ⟨g, j, none⟩ (.int .u64 x)) B (.slice (some ⟨g, 0, none⟩) n cap) (l.set j x) := by
  have hn : n = l.length := by
    obtain ⟨A', c', e, -⟩ := h.read
    injection e
  unfold OwnW at h ⊢
  rw [← hn] at h
  have := World.ownsRow.stored h j (.int .u64 x)
  rw [List.map_set, List.length_set, ← hn]
  exact this.1
theorem OwnW.frozen {w : World} {B g n cap : Nat} {l : List Int} (h : OwnW w B (.slice (some ⟨g, 0, none⟩) n cap) l) (j : Nat) : w.frozen? ⟨g, j, none⟩ = false := by
  have hn : n = l.length := by
    obtain ⟨A', c', e, -⟩ := h.read
    injection e
  unfold OwnW at h
  rw [← hn] at h
  exact World.ownsRow.frozenAt h j

set_option maxHeartbeats 1000000 in
set_option maxRecDepth 100000 in
theorem words_any (s : ByteArray) (hs : s.size ≤ 500) (w : World) :
    Calls Tryz.prog 37 #[.string s] w fun e w' => ∃ (m : Nat) (v : Value), m = (s.size + 7) / 8 ∧ e = .returned v ∧ OwnW w' w.heap.size v (pks (byt s) s.size m s.size) ∧ Below w.heap.size w w' := by
  have hs0 : IntKind.u64.wrap (s.size : Int) = s.size := by rw [IntKind.wrap_u64]; omega
  have ho := OwnW.one w (s.size : Int) (Nat.le_refl w.heap.size)
  have hb := (Below.refl w.heap.size w).alloc (Nat.le_refl _) (.cells #[.int .u64 (s.size : Int)] 35)
  rw [show [(s.size : Int)] = pks (byt s) s.size 0 0 from rfl] at ho
  have OO := Lib.hid ho
  have BB := Lib.hid hb
  clear ho hb
  go_enter Tryz.func37, Tryz.ntmps37
  go_wp2_with fail
  generalize w.alloc (.cells #[.int .u64 (s.size : Int)] 35) = W1 at *
  go_loopw [3, 4] (fun v iv wr => ∃ k : Nat, k ≤ s.size ∧ iv = .int .i64 k ∧ OwnW wr w.heap.size v (pks (byt s) s.size ((k + 7) / 8) k) ∧ Below w.heap.size w wr) (fun _ iv _ => s.size - (intOf iv).toNat)
  case atStart => exact ⟨0, by omega, rfl, OO.out, BB.out⟩
  case round =>
    obtain ⟨k, hk, rfl, ho, hb⟩ := hrel
    by_cases hks : k < s.size
    · have hb8 := byt_at s hks
      have hbd := byt_byt s k
      obtain ⟨a0, a1⟩ := acc_at (byt_byt s) k (k / 8)
      obtain ⟨b0, b1⟩ := acc_at (byt_byt s) (k + 1) (k / 8)
      have hac : acc (byt s) (k + 1) (k / 8) = acc (byt s) k (k / 8) + byt s k * pw (k % 8) := by rw [acc, if_pos rfl]
      -- the last word has the byte added
      have FIN : Hid (∀ (g cap L : Nat) w2, L = k / 8 + 2 → OwnW w2 w.heap.size (.slice (some ⟨g, 0, none⟩) L cap) (pks (byt s) s.size (k / 8 + 1) k) → Below w.heap.size w w2 → w.heap.size ≤ g → w2.cell? ⟨g, k / 8 + 1, none⟩ = some (.int .u64 (acc (byt s) k (k / 8))) ∧ w2.frozen? ⟨g, k / 8 + 1, none⟩ = false ∧
          OwnW (w2.setCell ⟨g, k / 8 + 1, none⟩ (.int .u64 (acc (byt s) k (k / 8) + byt s k * pw (k % 8)))) w.heap.size (.slice (some ⟨g, 0, none⟩) L cap) (pks (byt s) s.size ((k + 1 + 7) / 8) (k + 1)) ∧ Below w.heap.size w (w2.setCell ⟨g, k / 8 + 1, none⟩ (.int .u64 (acc (byt s) k (k / 8) + byt s k * pw (k % 8))))) := fun g cap L w2 hL h2 h3 hg => by
        obtain ⟨g', eg, -, -, hc⟩ := h2.cell (j := k / 8 + 1) (by rw [pks_len]; omega)
        injection eg with eg
        injection eg with eg
        subst eg
        rw [pks_at _ _ _ _ _ (by omega)] at hc
        refine ⟨hc, h2.frozen _, ?_, h3.setCell hg _⟩
        have := h2.stored (k / 8 + 1) (acc (byt s) k (k / 8) + byt s k * pw (k % 8))
        rw [show k / 8 + 1 = 1 + k / 8 by omega, pks_next] at this
        rw [show (k + 1 + 7) / 8 = k / 8 + 1 by omega, show k / 8 + 1 = 1 + k / 8 by omega]
        exact this
      have hw : IntKind.u64.wrap (acc (byt s) k (k / 8) + byt s k * pw (k % 8)) = acc (byt s) k (k / 8) + byt s k * pw (k % 8) := by
        rw [IntKind.wrap_u64, ← hac]
        omega
      clear b0 b1 hac a0 a1
      obtain ⟨j, hj⟩ : ∃ j : Nat, k % 8 = j := ⟨_, rfl⟩
      have hj8 : j < 8 := by omega
      have hji : (k : Int) % 8 = j := by omega
      have hy8 : IntKind.u64.wrap (byt s k) = byt s k := by rw [IntKind.wrap_u64]; omega
      by_cases h0 : j = 0
      · have hz : ((j : Int) == 0) = true := by simp; omega
        have hm : (k + 7) / 8 = k / 8 := by omega
        rw [hm] at ho
        have H0 := Lib.hid h0
        clear h0
        have hsz := hb.size
        have hol := ho.lt
        go_wp2_with (first
          | (refine wpList_append_words (v := u3) (x := .slice (some ⟨wr.heap.size, 0, none⟩) 1 1) rfl _ _ 59 rfl Tryz.underlying59 rfl rfl (ho.turns ((Turns.refl (fun _ => False) _).alloc _) (fun _ _ h => h)) (OwnW.one (B := wr.heap.size) wr 0 (Nat.le_refl _)) (by rw [pks_len]; simp; omega) (by simp; omega) ?_
             intro v4 WW hown4 hg4 hat4))
        have HB : Hid (Below w.heap.size w WW) := hb.trans ((((Turns.refl (fun i => w.heap.size ≤ i) wr).alloc (.cells #[.int .u64 0] 35)).grown hg4 (fun i hi hlt => (hol i hi).1)).below hb.size (fun i hi => hi))
        rw [pks_push _ _ _ _ (by omega)] at hown4
        have hrd := hown4.read
        rw [pks_len] at hrd
        obtain ⟨A4, cap, rfl, hr⟩ := hrd
        obtain ⟨g, rfl, hg, -, -⟩ := hr 0 (by omega)
        obtain ⟨L, hL0⟩ : ∃ L, k / 8 + 1 + 1 = L := ⟨_, rfl⟩
        rw [hL0] at hown4 ⊢
        have hL : L = k / 8 + 2 := by omega
        have hown := hown4
        clear hown4 hr hg4 hat4 ho hol hm
        obtain ⟨hc2, hf2, ho2, hb2⟩ := FIN.out g cap L WW hL hown HB.out hg
        have FO := Lib.hid ho2
        have FB := Lib.hid hb2
        clear ho2 hb2 hown FIN
        generalize acc (byt s) k (k / 8) = x at *
        generalize byt s k = y at *
        obtain ⟨ix, hix⟩ : ∃ ix : Nat, k / 8 + 1 = ix := ⟨_, rfl⟩
        rw [hix] at hc2 hf2 FO FB
        rw [hj] at hw FO FB
        have hixL : ix < L := by omega
        have hLx := Lib.hid hL
        clear hL hL0
        have hL1 : (L : Int) - 1 = ix := by
          have := hLx.out
          omega
        have ix9 : ix ≤ 1000 := by omega
        clear hix
        go_loopw [5, 6] (fun xv iv wr2 => ∃ i : Nat, i ≤ j ∧ iv = .int .i64 i ∧ xv = .int .u64 (y * pw i) ∧ wr2 = WW) (fun _ iv _ => j - (intOf iv).toNat)
        case atStart => exact ⟨0, by omega, rfl, by rw [show pw 0 = 1 from rfl, Int.mul_one], rfl⟩
        case round =>
          obtain ⟨i, hi, rfl, rfl, rfl⟩ := hrel
          by_cases hij : i < j
          · have hi8 : i < 8 := by omega
            have hpi := (pw_bd hi8).2
            have hsh : IntKind.u64.wrap (y * pw i * 256) = y * pw (i + 1) := by
              have h256 := (pw_bd (j := i + 1) (by omega)).1
              have hp1 := pw_pos (i + 1)
              rw [Int.mul_assoc, Int.mul_comm (pw i) 256, ← hpi, IntKind.wrap_u64]
              have h0 : 0 ≤ y * pw (i + 1) := Int.mul_nonneg hbd.1 (by omega)
              have h1 : y * pw (i + 1) < 256 * pw (i + 1) := Int.mul_lt_mul_of_pos_right hbd.2 hp1
              omega
            clear hpi
            obtain ⟨yn, hyn⟩ : ∃ yn, y * pw (i + 1) = yn := ⟨_, rfl⟩
            rw [hyn] at hsh
            have HY := Lib.hid hyn
            clear hyn
            generalize y * pw i = yi at *
            go_wp2_with fail
            go_roundw
            case rel => exact ⟨i + 1, by omega, by go_num, by rw [HY.out], by first | trivial | rfl⟩
            case measure => simp [intOf]; omega
          · have hi2 : Hid (y * pw i = y * pw j) := by
              have : i = j := by omega
              rw [this]
              exact rfl
            rw [hi2.out]
            generalize y * pw j = yj at *
            have ix0 : (0 : Int) ≤ ix := by omega
            have ix1 : wrap64 (ix : Int) = ix := by unfold wrap64; omega
            go_wp2_with fail
            go_roundw
            case rel => exact ⟨k + 1, by omega, by go_num, FO.out, FB.out⟩
            case measure => simp [intOf]; omega
      · have hz : ((j : Int) == 0) = false := by simp; omega
        have hm : (k + 7) / 8 = k / 8 + 1 := by omega
        rw [hm] at ho
        have hsz := hb.size
        obtain ⟨WW, hWW⟩ : ∃ WW, WW = wr := ⟨_, rfl⟩
        subst hWW
        have HB := Lib.hid hb
        have hrd := ho.read
        rw [pks_len] at hrd
        obtain ⟨A4, cap, rfl, hr⟩ := hrd
        obtain ⟨g, rfl, hg, -, -⟩ := hr 0 (by omega)
        obtain ⟨L, hL0⟩ : ∃ L, k / 8 + 1 + 1 = L := ⟨_, rfl⟩
        rw [hL0] at ho ⊢
        have hL : L = k / 8 + 2 := by omega
        have hown := ho
        clear hr ho hm hb
        obtain ⟨hc2, hf2, ho2, hb2⟩ := FIN.out g cap L WW hL hown HB.out hg
        have FO := Lib.hid ho2
        have FB := Lib.hid hb2
        clear ho2 hb2 hown FIN
        generalize acc (byt s) k (k / 8) = x at *
        generalize byt s k = y at *
        obtain ⟨ix, hix⟩ : ∃ ix : Nat, k / 8 + 1 = ix := ⟨_, rfl⟩
        rw [hix] at hc2 hf2 FO FB
        rw [hj] at hw FO FB
        have hixL : ix < L := by omega
        have hLx := Lib.hid hL
        clear hL hL0
        have hL1 : (L : Int) - 1 = ix := by
          have := hLx.out
          omega
        have ix9 : ix ≤ 1000 := by omega
        clear hix h0
        go_wp2_with fail
        go_loopw [5, 6] (fun xv iv wr2 => ∃ i : Nat, i ≤ j ∧ iv = .int .i64 i ∧ xv = .int .u64 (y * pw i) ∧ wr2 = WW) (fun _ iv _ => j - (intOf iv).toNat)
        case atStart => exact ⟨0, by omega, rfl, by rw [show pw 0 = 1 from rfl, Int.mul_one], rfl⟩
        case round =>
          obtain ⟨i, hi, rfl, rfl, rfl⟩ := hrel
          by_cases hij : i < j
          · have hi8 : i < 8 := by omega
            have hpi := (pw_bd hi8).2
            have hsh : IntKind.u64.wrap (y * pw i * 256) = y * pw (i + 1) := by
              have h256 := (pw_bd (j := i + 1) (by omega)).1
              have hp1 := pw_pos (i + 1)
              rw [Int.mul_assoc, Int.mul_comm (pw i) 256, ← hpi, IntKind.wrap_u64]
              have h0 : 0 ≤ y * pw (i + 1) := Int.mul_nonneg hbd.1 (by omega)
              have h1 : y * pw (i + 1) < 256 * pw (i + 1) := Int.mul_lt_mul_of_pos_right hbd.2 hp1
              omega
            clear hpi
            obtain ⟨yn, hyn⟩ : ∃ yn, y * pw (i + 1) = yn := ⟨_, rfl⟩
            rw [hyn] at hsh
            have HY := Lib.hid hyn
            clear hyn
            generalize y * pw i = yi at *
            go_wp2_with fail
            go_roundw
            case rel => exact ⟨i + 1, by omega, by go_num, by rw [HY.out], by first | trivial | rfl⟩
            case measure => simp [intOf]; omega
          · have hi2 : Hid (y * pw i = y * pw j) := by
              have : i = j := by omega
              rw [this]
              exact rfl
            rw [hi2.out]
            generalize y * pw j = yj at *
            have ix0 : (0 : Int) ≤ ix := by omega
            have ix1 : wrap64 (ix : Int) = ix := by unfold wrap64; omega
            go_wp2_with fail
            go_roundw
            case rel => exact ⟨k + 1, by omega, by go_num, FO.out, FB.out⟩
            case measure => simp [intOf]; omega
    · obtain rfl : k = s.size := by omega
      go_wp2_with fail
      go_ret
      exact ⟨_, _, rfl, rfl, ho, hb⟩
end Go.Proofs.YtagedholocgahaaGreatDoor
