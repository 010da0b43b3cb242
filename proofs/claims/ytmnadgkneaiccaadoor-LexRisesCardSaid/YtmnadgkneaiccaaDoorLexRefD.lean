/- What the document's own answer for layer 7 is on a string. -/
import Derived.Test.YtmnadgkneaiccaaDoorLexRefC
namespace Go.Proofs.YtmnadgkneaiccaaDoor
open Go.ChangeShapes Go.WideShapes Go.ChangeAt Go.RowKit

theorem own_zero (w : World) (o1 o2 o3 : Obj) : OwnB ((((w.alloc o1).alloc o2).alloc o3).alloc (.cells #[] 5)) (w.heap.size + 3) (.slice (some ⟨w.heap.size + 1 + 1 + 1, 0, none⟩) 0 0) [] := by
  have := World.ownsRow_lit (base := w.heap.size + 3) (e := 5) (size := 1) (((w.alloc o1).alloc o2).alloc o3) #[] 0 (by simp) (by decide) rfl
  rwa [show (((w.alloc o1).alloc o2).alloc o3).heap.size = w.heap.size + 1 + 1 + 1 by simp] at this
theorem qa_mark {s : ByteArray} {a k : Nat} {acc : List UInt8} {R : Int × List UInt8 × Nat} (h : k < s.size) (hc : s[k] = 34) (H : LM.qt (s.data.toList.drop k) acc (k - a) = R) : R = (0, acc, k - a + 1) := by
  rw [drop_cons h, LM.qt.eq_def] at H; simp only at H; rw [if_pos hc] at H; exact H.symm
theorem qa_plain {s : ByteArray} {a k : Nat} {acc : List UInt8} {R : Int × List UInt8 × Nat} (ha : a ≤ k) (h : k < s.size) (h1 : s[k] ≠ 34) (h2 : s[k] ≠ 92) (H : LM.qt (s.data.toList.drop k) acc (k - a) = R) :
    LM.qt (s.data.toList.drop (k + 1)) (acc ++ [s[k]]) (k + 1 - a) = R := by
  rw [drop_cons h, LM.qt.eq_def] at H; simp only at H; rw [if_neg h1, if_neg h2] at H
  rw [show k + 1 - a = k - a + 1 by omega]; exact H
theorem qa_end {s : ByteArray} {a k : Nat} {acc : List UInt8} {R : Int × List UInt8 × Nat} (h : s.size ≤ k) (H : LM.qt (s.data.toList.drop k) acc (k - a) = R) : R = (5, [], 0) := by
  rw [drop_end h, LM.qt.eq_def] at H; exact H.symm
theorem qa_cut {s : ByteArray} {a k : Nat} {acc : List UInt8} {R : Int × List UInt8 × Nat} (h : k < s.size) (h2 : s[k] = 92) (h3 : k + 1 = s.size) (H : LM.qt (s.data.toList.drop k) acc (k - a) = R) : R = (5, [], 0) := by
  rw [drop_cons h, LM.qt.eq_def] at H; simp only at H; rw [if_neg (by rw [h2]; decide), if_pos h2, drop_end (by omega)] at H; exact H.symm
theorem qa_bad {s : ByteArray} {a k : Nat} {acc : List UInt8} {R : Int × List UInt8 × Nat} (h : k < s.size) (h2 : s[k] = 92) (h3 : k + 1 < s.size) (he : LM.esc s[k + 1] = none) (H : LM.qt (s.data.toList.drop k) acc (k - a) = R) : R = (6, [], 0) := by
  rw [drop_cons h, LM.qt.eq_def] at H; simp only at H; rw [if_neg (by rw [h2]; decide), if_pos h2, drop_cons h3] at H
  simp only [he] at H
  exact H.symm
theorem qa_stroke {s : ByteArray} {a k : Nat} {acc : List UInt8} {R : Int × List UInt8 × Nat} {x : UInt8} (ha : a ≤ k) (h : k < s.size) (h2 : s[k] = 92) (h3 : k + 1 < s.size) (he : LM.esc s[k + 1] = some x) (H : LM.qt (s.data.toList.drop k) acc (k - a) = R) :
    LM.qt (s.data.toList.drop (k + 2)) (acc ++ [x]) (k + 2 - a) = R := by
  rw [drop_cons h, LM.qt.eq_def] at H; simp only at H; rw [if_neg (by rw [h2]; decide), if_pos h2, drop_cons h3] at H
  simp only [he] at H
  rw [show k + 2 - a = k - a + 2 by omega]; exact H
/-- what a byte behind a stroke may be -/
theorem esc_cases (d : UInt8) : (LM.esc d = some 10 ∧ (d.toNat : Int) = 110) ∨ (LM.esc d = some 9 ∧ (d.toNat : Int) = 116) ∨ (LM.esc d = some 92 ∧ (d.toNat : Int) = 92) ∨ (LM.esc d = some 34 ∧ (d.toNat : Int) = 34)
    ∨ (LM.esc d = none ∧ ((d.toNat : Int) == 110) = false ∧ ((d.toNat : Int) == 116) = false ∧ ((d.toNat : Int) == 92) = false ∧ ((d.toNat : Int) == 34) = false) := by
  by_cases h1 : d = 110
  · subst h1; exact .inl ⟨rfl, rfl⟩
  by_cases h2 : d = 116
  · subst h2; exact .inr (.inl ⟨rfl, rfl⟩)
  by_cases h3 : d = 92
  · subst h3; exact .inr (.inr (.inl ⟨rfl, rfl⟩))
  by_cases h4 : d = 34
  · subst h4; exact .inr (.inr (.inr (.inl ⟨rfl, rfl⟩)))
  exact .inr (.inr (.inr (.inr ⟨by simp [LM.esc, h1, h2, h3, h4], byte_ne (n := 110) (by omega) h1, byte_ne (n := 116) (by omega) h2, byte_ne (n := 92) (by omega) h3, byte_ne (n := 34) (by omega) h4⟩)))

/-- a token and a fault are stored: other blocks stay; both hold what was stored -/
def nine (w : World) (p q : Nat) (v0 v1 v2 v3 v4 v5 u0 u1 u2 : Value) : World :=
  (((((((((w.setCell ⟨p, 0, none⟩ v0).setCell ⟨p, 1, none⟩ v1).setCell ⟨p, 2, none⟩ v2).setCell ⟨p, 3, none⟩ v3).setCell ⟨p, 4, none⟩ v4).setCell ⟨p, 5, none⟩ v5).setCell ⟨q, 0, none⟩ u0).setCell ⟨q, 1, none⟩ u1).setCell ⟨q, 2, none⟩ u2)
theorem nine_far {w : World} {g p q : Nat} {t : TypeId} {cs : List Value} (h : Lies w g t cs) (hp : g ≠ p) (hq : g ≠ q) (v0 v1 v2 v3 v4 v5 u0 u1 u2 : Value) : Lies (nine w p q v0 v1 v2 v3 v4 v5 u0 u1 u2) g t cs :=
  ((((((((h.far (p := ⟨p, 0, none⟩) hp v0).far (p := ⟨p, 1, none⟩) hp v1).far (p := ⟨p, 2, none⟩) hp v2).far (p := ⟨p, 3, none⟩) hp v3).far (p := ⟨p, 4, none⟩) hp v4).far (p := ⟨p, 5, none⟩) hp v5).far (p := ⟨q, 0, none⟩) hq u0).far (p := ⟨q, 1, none⟩) hq u1).far (p := ⟨q, 2, none⟩) hq u2
theorem nine_fst {w : World} {p q : Nat} {t : TypeId} {c0 c1 c2 c3 c4 c5 : Value} (h : Lies w p t [c0, c1, c2, c3, c4, c5]) (hq : p ≠ q) (v0 v1 v2 v3 v4 v5 u0 u1 u2 : Value) : Lies (nine w p q v0 v1 v2 v3 v4 v5 u0 u1 u2) p t [v0, v1, v2, v3, v4, v5] :=
  ((((((((h.stored 0 v0).stored 1 v1).stored 2 v2).stored 3 v3).stored 4 v4).stored 5 v5).far (p := ⟨q, 0, none⟩) hq u0).far (p := ⟨q, 1, none⟩) hq u1).far (p := ⟨q, 2, none⟩) hq u2
theorem nine_snd {w : World} {p q : Nat} {t : TypeId} {c0 c1 c2 : Value} (h : Lies w q t [c0, c1, c2]) (hq : q ≠ p) (v0 v1 v2 v3 v4 v5 u0 u1 u2 : Value) : Lies (nine w p q v0 v1 v2 v3 v4 v5 u0 u1 u2) q t [u0, u1, u2] :=
  ((((((((h.far (p := ⟨p, 0, none⟩) hq v0).far (p := ⟨p, 1, none⟩) hq v1).far (p := ⟨p, 2, none⟩) hq v2).far (p := ⟨p, 3, none⟩) hq v3).far (p := ⟨p, 4, none⟩) hq v4).far (p := ⟨p, 5, none⟩) hq v5).stored 0 u0).stored 1 u1).stored 2 u2
theorem nine_below {B : Nat} {a w : World} {p q : Nat} (h : Below B a w) (hp : B ≤ p) (hq : B ≤ q) (v0 v1 v2 v3 v4 v5 u0 u1 u2 : Value) : Below B a (nine w p q v0 v1 v2 v3 v4 v5 u0 u1 u2) :=
  ((((((((h.setCell hp v0).setCell hp v1).setCell hp v2).setCell hp v3).setCell hp v4).setCell hp v5).setCell hq u0).setCell hq u1).setCell hq u2

set_option maxRecDepth 100000 in
set_option maxHeartbeats 8000000 in
theorem rstr_any (s : ByteArray) (hs : s.size ≤ 900000) (a : Nat) (ha : a < s.size) (line col : Int) (w : World) :
    Calls Tryd.prog 24 #[.string s, .int .i64 (a : Nat), t0 line col a] w fun e w' => e = .returned (rv (LM.ofq (LM.qt (s.data.toList.drop (a + 1)) [] 1)) line col a) ∧ Went w w' := by
  obtain ⟨R, hR⟩ : ∃ R, LM.qt (s.data.toList.drop (a + 1)) [] 1 = R := ⟨_, rfl⟩
  rw [hR]
  have h0 : Hid (LM.qt (s.data.toList.drop (a + 1)) [] (a + 1 - a) = R) := by show _ = _; rw [show a + 1 - a = 1 by omega]; exact hR
  clear hR
  unfold t0
  go_enter Tryd.func24, Tryd.ntmps24
  go_wp2
  go_loopw [8, 9] (fun v i wr => ∃ (k : Nat) (acc : List UInt8), a + 1 ≤ k ∧ k ≤ s.size ∧ acc.length ≤ k ∧ i = .int .i64 k ∧ OwnB wr (w.heap.size + 3) v acc ∧ Lies wr w.heap.size 24 [.int .i64 0, .int .i64 0, .string ⟨#[]⟩, .int .i64 line, .int .i64 col, .int .i64 ((a : Nat) + 1 : Int)] ∧ Lies wr (w.heap.size + 1) 24 zero6 ∧ Lies wr (w.heap.size + 1 + 1) 30 [.int .i64 0, .int .i64 0, .int .i64 0] ∧ Below w.heap.size w wr ∧ Hid (LM.qt (s.data.toList.drop k) acc (k - a) = R)) (fun _ i _ => s.size - (intOf i).toNat)
  case atStart =>
    refine ⟨a + 1, [], by omega, by omega, by simp, by go_num, own_zero w _ _ _, ?_, ?_, ?_, ?_, h0⟩
    · exact (((Lies.made w 24 #[.int .i64 0, .int .i64 0, .string ⟨#[]⟩, .int .i64 line, .int .i64 col, .int .i64 ((a : Nat) + 1 : Int)]).alloc _).alloc _).alloc _
    · exact ((lies_made2 w _ 24 #[.int .i64 0, .int .i64 0, .string ⟨#[]⟩, .int .i64 0, .int .i64 0, .int .i64 0]).alloc _).alloc _
    · have := lies_made2 (w.alloc (.cells #[.int .i64 0, .int .i64 0, .string ⟨#[]⟩, .int .i64 line, .int .i64 col, .int .i64 ((a : Nat) + 1 : Int)] 24)) (.cells #[.int .i64 0, .int .i64 0, .string ⟨#[]⟩, .int .i64 0, .int .i64 0, .int .i64 0] 24) 30 #[.int .i64 0, .int .i64 0, .int .i64 0]
      rw [show (w.alloc (.cells #[.int .i64 0, .int .i64 0, .string ⟨#[]⟩, .int .i64 line, .int .i64 col, .int .i64 ((a : Nat) + 1 : Int)] 24)).heap.size = w.heap.size + 1 by simp] at this
      exact this.alloc _
    · exact (below3 w _ _ _).alloc (by simp; omega) _
  case round =>
    obtain ⟨k, acc, hk1, hk2, hacc, rfl, hown, hL, hM, hF, hb, H⟩ := hrel
    have x3 : wr.cell? ⟨w.heap.size, 3, none⟩ = some (.int .i64 line) := hL.cell 3
    have x4 : wr.cell? ⟨w.heap.size, 4, none⟩ = some (.int .i64 col) := hL.cell 4
    have g0 := hL.free
    have g1 := hM.free
    have g2 := hF.free
    have y0 : wr.cell? ⟨w.heap.size + 1, 0, none⟩ = some (.int .i64 0) := hM.cell 0
    have y1 : wr.cell? ⟨w.heap.size + 1, 1, none⟩ = some (.int .i64 0) := hM.cell 1
    have y2 : wr.cell? ⟨w.heap.size + 1, 2, none⟩ = some (.string ⟨#[]⟩) := hM.cell 2
    have y3 : wr.cell? ⟨w.heap.size + 1, 3, none⟩ = some (.int .i64 0) := hM.cell 3
    have y4 : wr.cell? ⟨w.heap.size + 1, 4, none⟩ = some (.int .i64 0) := hM.cell 4
    have y5 : wr.cell? ⟨w.heap.size + 1, 5, none⟩ = some (.int .i64 0) := hM.cell 5
    have z0 : wr.cell? ⟨w.heap.size + 1 + 1, 0, none⟩ = some (.int .i64 0) := hF.cell 0
    have z1 : wr.cell? ⟨w.heap.size + 1 + 1, 1, none⟩ = some (.int .i64 0) := hF.cell 1
    have z2 : wr.cell? ⟨w.heap.size + 1 + 1, 2, none⟩ = some (.int .i64 0) := hF.cell 2
    by_cases hlt : k < s.size
    · by_cases c1 : s[k] = 34
      · have e1 := byte_eq (n := 34) (by omega) c1
        have hR := Lib.hid (qa_mark hlt c1 H.out)
        have hcv := OwnB.conv (own_stored hown (p := ⟨w.heap.size, 0, none⟩) (by simp) (.int .i64 12) : OwnB (wr.setCell ⟨w.heap.size, 0, none⟩ (.int .i64 12)) (w.heap.size + 3) _ acc)
        obtain ⟨A4, c4, rfl⟩ := hown.read
        clear c1 H
        by_cases h5 : 500 < acc.length
        · have hp : rv (LM.ofq R) line col a = .tuple #[.agg #[.int .i64 0, .int .i64 0, .string ⟨#[]⟩, .int .i64 0, .int .i64 0, .int .i64 0], .agg #[.int .i64 14, .int .i64 line, .int .i64 col]] := by
            rw [hR.out]; unfold LM.ofq; simp only; rw [if_neg (by simp), if_pos h5]; rfl
          have hp' := Lib.hid hp
          clear hp hcv
          have kx : (nine wr (w.heap.size + 1) (w.heap.size + 1 + 1) (.int .i64 0) (.int .i64 0) (.string ⟨#[]⟩) (.int .i64 0) (.int .i64 0) (.int .i64 0) (.int .i64 14) (.int .i64 line) (.int .i64 col)).drew.cell? ⟨w.heap.size, 3, none⟩ = some (.int .i64 line) ∧ (nine wr (w.heap.size + 1) (w.heap.size + 1 + 1) (.int .i64 0) (.int .i64 0) (.string ⟨#[]⟩) (.int .i64 0) (.int .i64 0) (.int .i64 0) (.int .i64 14) (.int .i64 line) (.int .i64 col)).drew.cell? ⟨w.heap.size, 4, none⟩ = some (.int .i64 col) :=
            ⟨((nine_far hL (by omega) (by omega) _ _ _ _ _ _ _ _ _).drew).cell 3, ((nine_far hL (by omega) (by omega) _ _ _ _ _ _ _ _ _).drew).cell 4⟩
          unfold nine at kx
          clear y0 y1 y2 y3 y4 y5 z0 z1 z2 g0 g1 g2
          go_wp2
          have y0 : wr.cell? ⟨w.heap.size + 1, 0, none⟩ = some (.int .i64 0) := hM.cell 0
          have y1 : wr.cell? ⟨w.heap.size + 1, 1, none⟩ = some (.int .i64 0) := hM.cell 1
          have y2 : wr.cell? ⟨w.heap.size + 1, 2, none⟩ = some (.string ⟨#[]⟩) := hM.cell 2
          have y3 : wr.cell? ⟨w.heap.size + 1, 3, none⟩ = some (.int .i64 0) := hM.cell 3
          have y4 : wr.cell? ⟨w.heap.size + 1, 4, none⟩ = some (.int .i64 0) := hM.cell 4
          have y5 : wr.cell? ⟨w.heap.size + 1, 5, none⟩ = some (.int .i64 0) := hM.cell 5
          have z0 : wr.cell? ⟨w.heap.size + 1 + 1, 0, none⟩ = some (.int .i64 0) := hF.cell 0
          have z1 : wr.cell? ⟨w.heap.size + 1 + 1, 1, none⟩ = some (.int .i64 0) := hF.cell 1
          have z2 : wr.cell? ⟨w.heap.size + 1 + 1, 2, none⟩ = some (.int .i64 0) := hF.cell 2
          have g1 := hM.free
          have g2 := hF.free
          go_region_held3 (fun w' => w'.cell? ⟨w.heap.size, 3, none⟩ = some (.int .i64 line) ∧ w'.cell? ⟨w.heap.size, 4, none⟩ = some (.int .i64 col)) (first | go_keep | exact kx) (fail)
          have hM5 := (nine_fst hM (q := w.heap.size + 1 + 1) (by omega) (.int .i64 0) (.int .i64 0) (.string ⟨#[]⟩) (.int .i64 0) (.int .i64 0) (.int .i64 0) (.int .i64 14) (.int .i64 line) (.int .i64 col)).drew
          have hF5 := (nine_snd hF (p := w.heap.size + 1) (by omega) (.int .i64 0) (.int .i64 0) (.string ⟨#[]⟩) (.int .i64 0) (.int .i64 0) (.int .i64 0) (.int .i64 14) (.int .i64 line) (.int .i64 col)).drew
          have hb5 := below_drewN (nine_below hb (p := w.heap.size + 1) (q := w.heap.size + 1 + 1) (by omega) (by omega) (.int .i64 0) (.int .i64 0) (.string ⟨#[]⟩) (.int .i64 0) (.int .i64 0) (.int .i64 0) (.int .i64 14) (.int .i64 line) (.int .i64 col)) 1
          unfold nine at hM5 hF5 hb5
          generalize hW5 : World.drew _ = W5
          rw [hW5] at hM5 hF5
          have hb6 : Below w.heap.size w W5 := hW5 ▸ hb5
          clear hW5 hb5 kx x3 x4 y0 y1 y2 y3 y4 y5 z0 z1 z2 g1 g2 hM hF hL hb hown
          have y0 : W5.cell? ⟨w.heap.size + 1, 0, none⟩ = some (.int .i64 0) := hM5.cell 0
          have y1 : W5.cell? ⟨w.heap.size + 1, 1, none⟩ = some (.int .i64 0) := hM5.cell 1
          have y2 : W5.cell? ⟨w.heap.size + 1, 2, none⟩ = some (.string ⟨#[]⟩) := hM5.cell 2
          have y3 : W5.cell? ⟨w.heap.size + 1, 3, none⟩ = some (.int .i64 0) := hM5.cell 3
          have y4 : W5.cell? ⟨w.heap.size + 1, 4, none⟩ = some (.int .i64 0) := hM5.cell 4
          have y5 : W5.cell? ⟨w.heap.size + 1, 5, none⟩ = some (.int .i64 0) := hM5.cell 5
          have z0 : W5.cell? ⟨w.heap.size + 1 + 1, 0, none⟩ = some (.int .i64 14) := hF5.cell 0
          have z1 : W5.cell? ⟨w.heap.size + 1 + 1, 1, none⟩ = some (.int .i64 line) := hF5.cell 1
          have z2 : W5.cell? ⟨w.heap.size + 1 + 1, 2, none⟩ = some (.int .i64 col) := hF5.cell 2
          clear hM5 hF5
          go_wp2_with fail
          exact bodyPost_ret (v := .tuple #[.agg #[.int .i64 0, .int .i64 0, .string ⟨#[]⟩, .int .i64 0, .int .i64 0, .int .i64 0], .agg #[.int .i64 14, .int .i64 line, .int .i64 col]]) (by simp [results, Tryd.results24, go_sem, y0, y1, y2, y3, y4, y5, z0, z1, z2]) rfl ⟨by rw [hp'.out], hb6⟩
        · have hp : rv (LM.ofq R) line col a = .tuple #[.agg #[.int .i64 12, .int .i64 0, .string ⟨acc.toArray⟩, .int .i64 line, .int .i64 col, .int .i64 ((k : Nat) + 1 : Int)], .agg #[.int .i64 0, .int .i64 0, .int .i64 0]] := by
            rw [hR.out]; unfold LM.ofq; simp only; rw [if_neg (by simp), if_neg h5]
            show Value.tuple #[.agg #[.int .i64 12, .int .i64 0, .string ⟨acc.toArray⟩, .int .i64 line, .int .i64 col, .int .i64 (a + (k - a + 1) : Nat)], .agg #[.int .i64 0, .int .i64 0, .int .i64 0]] = _
            rw [show ((a + (k - a + 1) : Nat) : Int) = (k : Nat) + 1 by omega]
          have hp' := Lib.hid hp
          have x0 : wr.cell? ⟨w.heap.size, 0, none⟩ = some (.int .i64 0) := hL.cell 0
          have x1 : wr.cell? ⟨w.heap.size, 1, none⟩ = some (.int .i64 0) := hL.cell 1
          have x2 : wr.cell? ⟨w.heap.size, 2, none⟩ = some (.string ⟨#[]⟩) := hL.cell 2
          have x5 : wr.cell? ⟨w.heap.size, 5, none⟩ = some (.int .i64 ((a : Nat) + 1 : Int)) := hL.cell 5
          clear hp
          go_wp2
          exact bodyPost_ret (v := .tuple #[.agg #[.int .i64 12, .int .i64 0, .string ⟨acc.toArray⟩, .int .i64 line, .int .i64 col, .int .i64 ((k : Nat) + 1 : Int)], .agg #[.int .i64 0, .int .i64 0, .int .i64 0]]) (by simp [results, Tryd.results24, go_sem, y0, y1, y2, y3, y4, y5, z0, z1, z2]) rfl ⟨by rw [hp'.out], nine_below (((hb.setCell (Nat.le_refl _) _).setCell (Nat.le_refl _) _).setCell (Nat.le_refl _) _) (p := w.heap.size + 1) (q := w.heap.size + 1 + 1) (by omega) (by omega) _ _ _ _ _ _ _ _ _⟩
      · have e1 := byte_ne (n := 34) (by omega) c1
        by_cases c2 : s[k] = 92
        · have e2 := byte_eq (n := 92) (by omega) c2
          by_cases h3 : k + 1 < s.size
          · rcases esc_cases s[k + 1] with ⟨he, d1⟩ | ⟨he, d1⟩ | ⟨he, d1⟩ | ⟨he, d1⟩ | ⟨he, d1, d2, d3, d4⟩
            · have hN := Lib.hid (qa_stroke (by omega) hlt c2 h3 he H.out)
              clear c1 c2 he H
              obtain ⟨A4, c4, rfl⟩ := hown.read
              go_wp2_with (
                at_builtin
                refine wpList_append_own (v := .slice A4 acc.length c4) (x := .slice (some ⟨wr.heap.size, 0, none⟩) 1 1) (.int .u8 0) 1 Tryd.infoByte rfl (by decide) rfl _ _ 42 rfl Tryd.underlying42 rfl rfl (own_turns hown ((Turns.refl (fun _ => False) _).alloc _) (fun _ _ h => h)) (own_one (B := w.heap.size + 3) wr #[.int .u8 ((10 : UInt8)).toNat] rfl (by have := hF.lt; omega)) (by simp [Value.oneCell']) (by omega) (by omega) (by have := hF.lt; simp; omega) ?_
                intro v9 w9 hown9 hg9 hat9
                clear hat9
                have TT := Turns.appendedS hg9)
              have hb9 : Below w.heap.size w w9 := (hb.alloc hb.size _).trans (TT.below (by have := hb.size; simp; omega) (fun i hi => by have := World.ownsRow.lt hown i hi; omega))
              have hown10 : OwnB w9 (w.heap.size + 3) v9 (acc ++ [(10 : UInt8)]) := by
                unfold OwnB
                rw [List.length_append, ← byte_push]
                exact hown9
              have hL9 := (hL.alloc _).turns TT (fun h => by have := World.ownsRow.lt hown _ h; omega)
              have hM9 := (hM.alloc _).turns TT (fun h => by have := World.ownsRow.lt hown _ h; omega)
              have hF9 := (hF.alloc _).turns TT (fun h => by have := World.ownsRow.lt hown _ h; omega)
              go_roundw
              case rel => exact ⟨k + 2, acc ++ [(10 : UInt8)], by omega, by omega, by simp; omega, by go_num, hown10, hL9, hM9, hF9, hb9, hN⟩
              case measure => simp [intOf]; omega
            · have hN := Lib.hid (qa_stroke (by omega) hlt c2 h3 he H.out)
              clear c1 c2 he H
              obtain ⟨A4, c4, rfl⟩ := hown.read
              go_wp2_with (
                at_builtin
                refine wpList_append_own (v := .slice A4 acc.length c4) (x := .slice (some ⟨wr.heap.size, 0, none⟩) 1 1) (.int .u8 0) 1 Tryd.infoByte rfl (by decide) rfl _ _ 42 rfl Tryd.underlying42 rfl rfl (own_turns hown ((Turns.refl (fun _ => False) _).alloc _) (fun _ _ h => h)) (own_one (B := w.heap.size + 3) wr #[.int .u8 ((9 : UInt8)).toNat] rfl (by have := hF.lt; omega)) (by simp [Value.oneCell']) (by omega) (by omega) (by have := hF.lt; simp; omega) ?_
                intro v9 w9 hown9 hg9 hat9
                clear hat9
                have TT := Turns.appendedS hg9)
              have hb9 : Below w.heap.size w w9 := (hb.alloc hb.size _).trans (TT.below (by have := hb.size; simp; omega) (fun i hi => by have := World.ownsRow.lt hown i hi; omega))
              have hown10 : OwnB w9 (w.heap.size + 3) v9 (acc ++ [(9 : UInt8)]) := by
                unfold OwnB
                rw [List.length_append, ← byte_push]
                exact hown9
              have hL9 := (hL.alloc _).turns TT (fun h => by have := World.ownsRow.lt hown _ h; omega)
              have hM9 := (hM.alloc _).turns TT (fun h => by have := World.ownsRow.lt hown _ h; omega)
              have hF9 := (hF.alloc _).turns TT (fun h => by have := World.ownsRow.lt hown _ h; omega)
              go_roundw
              case rel => exact ⟨k + 2, acc ++ [(9 : UInt8)], by omega, by omega, by simp; omega, by go_num, hown10, hL9, hM9, hF9, hb9, hN⟩
              case measure => simp [intOf]; omega
            · have hN := Lib.hid (qa_stroke (by omega) hlt c2 h3 he H.out)
              clear c1 c2 he H
              obtain ⟨A4, c4, rfl⟩ := hown.read
              go_wp2_with (
                at_builtin
                refine wpList_append_own (v := .slice A4 acc.length c4) (x := .slice (some ⟨wr.heap.size, 0, none⟩) 1 1) (.int .u8 0) 1 Tryd.infoByte rfl (by decide) rfl _ _ 42 rfl Tryd.underlying42 rfl rfl (own_turns hown ((Turns.refl (fun _ => False) _).alloc _) (fun _ _ h => h)) (own_one (B := w.heap.size + 3) wr #[.int .u8 ((92 : UInt8)).toNat] rfl (by have := hF.lt; omega)) (by simp [Value.oneCell']) (by omega) (by omega) (by have := hF.lt; simp; omega) ?_
                intro v9 w9 hown9 hg9 hat9
                clear hat9
                have TT := Turns.appendedS hg9)
              have hb9 : Below w.heap.size w w9 := (hb.alloc hb.size _).trans (TT.below (by have := hb.size; simp; omega) (fun i hi => by have := World.ownsRow.lt hown i hi; omega))
              have hown10 : OwnB w9 (w.heap.size + 3) v9 (acc ++ [(92 : UInt8)]) := by
                unfold OwnB
                rw [List.length_append, ← byte_push]
                exact hown9
              have hL9 := (hL.alloc _).turns TT (fun h => by have := World.ownsRow.lt hown _ h; omega)
              have hM9 := (hM.alloc _).turns TT (fun h => by have := World.ownsRow.lt hown _ h; omega)
              have hF9 := (hF.alloc _).turns TT (fun h => by have := World.ownsRow.lt hown _ h; omega)
              go_roundw
              case rel => exact ⟨k + 2, acc ++ [(92 : UInt8)], by omega, by omega, by simp; omega, by go_num, hown10, hL9, hM9, hF9, hb9, hN⟩
              case measure => simp [intOf]; omega
            · have hN := Lib.hid (qa_stroke (by omega) hlt c2 h3 he H.out)
              clear c1 c2 he H
              obtain ⟨A4, c4, rfl⟩ := hown.read
              go_wp2_with (
                at_builtin
                refine wpList_append_own (v := .slice A4 acc.length c4) (x := .slice (some ⟨wr.heap.size, 0, none⟩) 1 1) (.int .u8 0) 1 Tryd.infoByte rfl (by decide) rfl _ _ 42 rfl Tryd.underlying42 rfl rfl (own_turns hown ((Turns.refl (fun _ => False) _).alloc _) (fun _ _ h => h)) (own_one (B := w.heap.size + 3) wr #[.int .u8 ((34 : UInt8)).toNat] rfl (by have := hF.lt; omega)) (by simp [Value.oneCell']) (by omega) (by omega) (by have := hF.lt; simp; omega) ?_
                intro v9 w9 hown9 hg9 hat9
                clear hat9
                have TT := Turns.appendedS hg9)
              have hb9 : Below w.heap.size w w9 := (hb.alloc hb.size _).trans (TT.below (by have := hb.size; simp; omega) (fun i hi => by have := World.ownsRow.lt hown i hi; omega))
              have hown10 : OwnB w9 (w.heap.size + 3) v9 (acc ++ [(34 : UInt8)]) := by
                unfold OwnB
                rw [List.length_append, ← byte_push]
                exact hown9
              have hL9 := (hL.alloc _).turns TT (fun h => by have := World.ownsRow.lt hown _ h; omega)
              have hM9 := (hM.alloc _).turns TT (fun h => by have := World.ownsRow.lt hown _ h; omega)
              have hF9 := (hF.alloc _).turns TT (fun h => by have := World.ownsRow.lt hown _ h; omega)
              go_roundw
              case rel => exact ⟨k + 2, acc ++ [(34 : UInt8)], by omega, by omega, by simp; omega, by go_num, hown10, hL9, hM9, hF9, hb9, hN⟩
              case measure => simp [intOf]; omega
            · have hR := Lib.hid (qa_bad hlt c2 h3 he H.out)
              clear c1 c2 he H
              have kx : (nine wr (w.heap.size + 1) (w.heap.size + 1 + 1) (.int .i64 0) (.int .i64 0) (.string ⟨#[]⟩) (.int .i64 0) (.int .i64 0) (.int .i64 0) (.int .i64 6) (.int .i64 line) (.int .i64 col)).drew.cell? ⟨w.heap.size, 3, none⟩ = some (.int .i64 line) ∧ (nine wr (w.heap.size + 1) (w.heap.size + 1 + 1) (.int .i64 0) (.int .i64 0) (.string ⟨#[]⟩) (.int .i64 0) (.int .i64 0) (.int .i64 0) (.int .i64 6) (.int .i64 line) (.int .i64 col)).drew.cell? ⟨w.heap.size, 4, none⟩ = some (.int .i64 col) :=
                ⟨((nine_far hL (by omega) (by omega) _ _ _ _ _ _ _ _ _).drew).cell 3, ((nine_far hL (by omega) (by omega) _ _ _ _ _ _ _ _ _).drew).cell 4⟩
              unfold nine at kx
              clear y0 y1 y2 y3 y4 y5 z0 z1 z2 g0 g1 g2
              go_wp2
              have y0 : wr.cell? ⟨w.heap.size + 1, 0, none⟩ = some (.int .i64 0) := hM.cell 0
              have y1 : wr.cell? ⟨w.heap.size + 1, 1, none⟩ = some (.int .i64 0) := hM.cell 1
              have y2 : wr.cell? ⟨w.heap.size + 1, 2, none⟩ = some (.string ⟨#[]⟩) := hM.cell 2
              have y3 : wr.cell? ⟨w.heap.size + 1, 3, none⟩ = some (.int .i64 0) := hM.cell 3
              have y4 : wr.cell? ⟨w.heap.size + 1, 4, none⟩ = some (.int .i64 0) := hM.cell 4
              have y5 : wr.cell? ⟨w.heap.size + 1, 5, none⟩ = some (.int .i64 0) := hM.cell 5
              have z0 : wr.cell? ⟨w.heap.size + 1 + 1, 0, none⟩ = some (.int .i64 0) := hF.cell 0
              have z1 : wr.cell? ⟨w.heap.size + 1 + 1, 1, none⟩ = some (.int .i64 0) := hF.cell 1
              have z2 : wr.cell? ⟨w.heap.size + 1 + 1, 2, none⟩ = some (.int .i64 0) := hF.cell 2
              have g1 := hM.free
              have g2 := hF.free
              go_region_held3 (fun w' => w'.cell? ⟨w.heap.size, 3, none⟩ = some (.int .i64 line) ∧ w'.cell? ⟨w.heap.size, 4, none⟩ = some (.int .i64 col)) (first | go_keep | exact kx) (fail)
              have hM5 := (nine_fst hM (q := w.heap.size + 1 + 1) (by omega) (.int .i64 0) (.int .i64 0) (.string ⟨#[]⟩) (.int .i64 0) (.int .i64 0) (.int .i64 0) (.int .i64 6) (.int .i64 line) (.int .i64 col)).drew
              have hF5 := (nine_snd hF (p := w.heap.size + 1) (by omega) (.int .i64 0) (.int .i64 0) (.string ⟨#[]⟩) (.int .i64 0) (.int .i64 0) (.int .i64 0) (.int .i64 6) (.int .i64 line) (.int .i64 col)).drew
              have hb5 := below_drewN (nine_below hb (p := w.heap.size + 1) (q := w.heap.size + 1 + 1) (by omega) (by omega) (.int .i64 0) (.int .i64 0) (.string ⟨#[]⟩) (.int .i64 0) (.int .i64 0) (.int .i64 0) (.int .i64 6) (.int .i64 line) (.int .i64 col)) 1
              unfold nine at hM5 hF5 hb5
              generalize hW5 : World.drew _ = W5
              rw [hW5] at hM5 hF5
              have hb6 : Below w.heap.size w W5 := hW5 ▸ hb5
              clear hW5 hb5 kx x3 x4 y0 y1 y2 y3 y4 y5 z0 z1 z2 g1 g2 hM hF hL hb hown
              have y0 : W5.cell? ⟨w.heap.size + 1, 0, none⟩ = some (.int .i64 0) := hM5.cell 0
              have y1 : W5.cell? ⟨w.heap.size + 1, 1, none⟩ = some (.int .i64 0) := hM5.cell 1
              have y2 : W5.cell? ⟨w.heap.size + 1, 2, none⟩ = some (.string ⟨#[]⟩) := hM5.cell 2
              have y3 : W5.cell? ⟨w.heap.size + 1, 3, none⟩ = some (.int .i64 0) := hM5.cell 3
              have y4 : W5.cell? ⟨w.heap.size + 1, 4, none⟩ = some (.int .i64 0) := hM5.cell 4
              have y5 : W5.cell? ⟨w.heap.size + 1, 5, none⟩ = some (.int .i64 0) := hM5.cell 5
              have z0 : W5.cell? ⟨w.heap.size + 1 + 1, 0, none⟩ = some (.int .i64 6) := hF5.cell 0
              have z1 : W5.cell? ⟨w.heap.size + 1 + 1, 1, none⟩ = some (.int .i64 line) := hF5.cell 1
              have z2 : W5.cell? ⟨w.heap.size + 1 + 1, 2, none⟩ = some (.int .i64 col) := hF5.cell 2
              clear hM5 hF5
              go_wp2_with fail
              exact bodyPost_ret (v := .tuple #[.agg #[.int .i64 0, .int .i64 0, .string ⟨#[]⟩, .int .i64 0, .int .i64 0, .int .i64 0], .agg #[.int .i64 6, .int .i64 line, .int .i64 col]]) (by simp [results, Tryd.results24, go_sem, y0, y1, y2, y3, y4, y5, z0, z1, z2]) rfl ⟨by rw [hR.out]; rfl, hb6⟩
          · have hR := Lib.hid (qa_cut hlt c2 (by omega) H.out)
            clear c1 c2 H
            have kx : (nine wr (w.heap.size + 1) (w.heap.size + 1 + 1) (.int .i64 0) (.int .i64 0) (.string ⟨#[]⟩) (.int .i64 0) (.int .i64 0) (.int .i64 0) (.int .i64 5) (.int .i64 line) (.int .i64 col)).drew.cell? ⟨w.heap.size, 3, none⟩ = some (.int .i64 line) ∧ (nine wr (w.heap.size + 1) (w.heap.size + 1 + 1) (.int .i64 0) (.int .i64 0) (.string ⟨#[]⟩) (.int .i64 0) (.int .i64 0) (.int .i64 0) (.int .i64 5) (.int .i64 line) (.int .i64 col)).drew.cell? ⟨w.heap.size, 4, none⟩ = some (.int .i64 col) :=
              ⟨((nine_far hL (by omega) (by omega) _ _ _ _ _ _ _ _ _).drew).cell 3, ((nine_far hL (by omega) (by omega) _ _ _ _ _ _ _ _ _).drew).cell 4⟩
            unfold nine at kx
            clear y0 y1 y2 y3 y4 y5 z0 z1 z2 g0 g1 g2
            go_wp2
            have y0 : wr.cell? ⟨w.heap.size + 1, 0, none⟩ = some (.int .i64 0) := hM.cell 0
            have y1 : wr.cell? ⟨w.heap.size + 1, 1, none⟩ = some (.int .i64 0) := hM.cell 1
            have y2 : wr.cell? ⟨w.heap.size + 1, 2, none⟩ = some (.string ⟨#[]⟩) := hM.cell 2
            have y3 : wr.cell? ⟨w.heap.size + 1, 3, none⟩ = some (.int .i64 0) := hM.cell 3
            have y4 : wr.cell? ⟨w.heap.size + 1, 4, none⟩ = some (.int .i64 0) := hM.cell 4
            have y5 : wr.cell? ⟨w.heap.size + 1, 5, none⟩ = some (.int .i64 0) := hM.cell 5
            have z0 : wr.cell? ⟨w.heap.size + 1 + 1, 0, none⟩ = some (.int .i64 0) := hF.cell 0
            have z1 : wr.cell? ⟨w.heap.size + 1 + 1, 1, none⟩ = some (.int .i64 0) := hF.cell 1
            have z2 : wr.cell? ⟨w.heap.size + 1 + 1, 2, none⟩ = some (.int .i64 0) := hF.cell 2
            have g1 := hM.free
            have g2 := hF.free
            go_region_held3 (fun w' => w'.cell? ⟨w.heap.size, 3, none⟩ = some (.int .i64 line) ∧ w'.cell? ⟨w.heap.size, 4, none⟩ = some (.int .i64 col)) (first | go_keep | exact kx) (fail)
            have hM5 := (nine_fst hM (q := w.heap.size + 1 + 1) (by omega) (.int .i64 0) (.int .i64 0) (.string ⟨#[]⟩) (.int .i64 0) (.int .i64 0) (.int .i64 0) (.int .i64 5) (.int .i64 line) (.int .i64 col)).drew
            have hF5 := (nine_snd hF (p := w.heap.size + 1) (by omega) (.int .i64 0) (.int .i64 0) (.string ⟨#[]⟩) (.int .i64 0) (.int .i64 0) (.int .i64 0) (.int .i64 5) (.int .i64 line) (.int .i64 col)).drew
            have hb5 := below_drewN (nine_below hb (p := w.heap.size + 1) (q := w.heap.size + 1 + 1) (by omega) (by omega) (.int .i64 0) (.int .i64 0) (.string ⟨#[]⟩) (.int .i64 0) (.int .i64 0) (.int .i64 0) (.int .i64 5) (.int .i64 line) (.int .i64 col)) 1
            unfold nine at hM5 hF5 hb5
            generalize hW5 : World.drew _ = W5
            rw [hW5] at hM5 hF5
            have hb6 : Below w.heap.size w W5 := hW5 ▸ hb5
            clear hW5 hb5 kx x3 x4 y0 y1 y2 y3 y4 y5 z0 z1 z2 g1 g2 hM hF hL hb hown
            have y0 : W5.cell? ⟨w.heap.size + 1, 0, none⟩ = some (.int .i64 0) := hM5.cell 0
            have y1 : W5.cell? ⟨w.heap.size + 1, 1, none⟩ = some (.int .i64 0) := hM5.cell 1
            have y2 : W5.cell? ⟨w.heap.size + 1, 2, none⟩ = some (.string ⟨#[]⟩) := hM5.cell 2
            have y3 : W5.cell? ⟨w.heap.size + 1, 3, none⟩ = some (.int .i64 0) := hM5.cell 3
            have y4 : W5.cell? ⟨w.heap.size + 1, 4, none⟩ = some (.int .i64 0) := hM5.cell 4
            have y5 : W5.cell? ⟨w.heap.size + 1, 5, none⟩ = some (.int .i64 0) := hM5.cell 5
            have z0 : W5.cell? ⟨w.heap.size + 1 + 1, 0, none⟩ = some (.int .i64 5) := hF5.cell 0
            have z1 : W5.cell? ⟨w.heap.size + 1 + 1, 1, none⟩ = some (.int .i64 line) := hF5.cell 1
            have z2 : W5.cell? ⟨w.heap.size + 1 + 1, 2, none⟩ = some (.int .i64 col) := hF5.cell 2
            clear hM5 hF5
            go_wp2_with fail
            exact bodyPost_ret (v := .tuple #[.agg #[.int .i64 0, .int .i64 0, .string ⟨#[]⟩, .int .i64 0, .int .i64 0, .int .i64 0], .agg #[.int .i64 5, .int .i64 line, .int .i64 col]]) (by simp [results, Tryd.results24, go_sem, y0, y1, y2, y3, y4, y5, z0, z1, z2]) rfl ⟨by rw [hR.out]; rfl, hb6⟩
        · have e2 := byte_ne (n := 92) (by omega) c2
          have hN := Lib.hid (qa_plain (by omega) hlt c1 c2 H.out)
          clear c1 c2 H
          obtain ⟨A4, c4, rfl⟩ := hown.read
          go_wp2_with (
            at_builtin
            refine wpList_append_own (v := .slice A4 acc.length c4) (x := .slice (some ⟨wr.heap.size, 0, none⟩) 1 1) (.int .u8 0) 1 Tryd.infoByte rfl (by decide) rfl _ _ 42 rfl Tryd.underlying42 rfl rfl (own_turns hown ((Turns.refl (fun _ => False) _).alloc _) (fun _ _ h => h)) (own_one (B := w.heap.size + 3) wr #[.int .u8 (s[k]).toNat] rfl (by have := hF.lt; omega)) (by simp [Value.oneCell']) (by omega) (by omega) (by have := hF.lt; simp; omega) ?_
            intro v9 w9 hown9 hg9 hat9
            clear hat9
            have TT := Turns.appendedS hg9)
          have hb9 : Below w.heap.size w w9 := (hb.alloc hb.size _).trans (TT.below (by have := hb.size; simp; omega) (fun i hi => by have := World.ownsRow.lt hown i hi; omega))
          have hown10 : OwnB w9 (w.heap.size + 3) v9 (acc ++ [s[k]]) := by
            unfold OwnB
            rw [List.length_append, ← byte_push]
            exact hown9
          have hL9 := (hL.alloc _).turns TT (fun h => by have := World.ownsRow.lt hown _ h; omega)
          have hM9 := (hM.alloc _).turns TT (fun h => by have := World.ownsRow.lt hown _ h; omega)
          have hF9 := (hF.alloc _).turns TT (fun h => by have := World.ownsRow.lt hown _ h; omega)
          go_roundw
          case rel => exact ⟨k + 1, acc ++ [s[k]], by omega, by omega, by simp; omega, by go_num, hown10, hL9, hM9, hF9, hb9, hN⟩
          case measure => simp [intOf]; omega
    · have hR := Lib.hid (qa_end (by omega) H.out)
      clear H
      have kx : (nine wr (w.heap.size + 1) (w.heap.size + 1 + 1) (.int .i64 0) (.int .i64 0) (.string ⟨#[]⟩) (.int .i64 0) (.int .i64 0) (.int .i64 0) (.int .i64 5) (.int .i64 line) (.int .i64 col)).drew.cell? ⟨w.heap.size, 3, none⟩ = some (.int .i64 line) ∧ (nine wr (w.heap.size + 1) (w.heap.size + 1 + 1) (.int .i64 0) (.int .i64 0) (.string ⟨#[]⟩) (.int .i64 0) (.int .i64 0) (.int .i64 0) (.int .i64 5) (.int .i64 line) (.int .i64 col)).drew.cell? ⟨w.heap.size, 4, none⟩ = some (.int .i64 col) :=
        ⟨((nine_far hL (by omega) (by omega) _ _ _ _ _ _ _ _ _).drew).cell 3, ((nine_far hL (by omega) (by omega) _ _ _ _ _ _ _ _ _).drew).cell 4⟩
      unfold nine at kx
      clear y0 y1 y2 y3 y4 y5 z0 z1 z2 g0 g1 g2
      go_wp2
      have y0 : wr.cell? ⟨w.heap.size + 1, 0, none⟩ = some (.int .i64 0) := hM.cell 0
      have y1 : wr.cell? ⟨w.heap.size + 1, 1, none⟩ = some (.int .i64 0) := hM.cell 1
      have y2 : wr.cell? ⟨w.heap.size + 1, 2, none⟩ = some (.string ⟨#[]⟩) := hM.cell 2
      have y3 : wr.cell? ⟨w.heap.size + 1, 3, none⟩ = some (.int .i64 0) := hM.cell 3
      have y4 : wr.cell? ⟨w.heap.size + 1, 4, none⟩ = some (.int .i64 0) := hM.cell 4
      have y5 : wr.cell? ⟨w.heap.size + 1, 5, none⟩ = some (.int .i64 0) := hM.cell 5
      have z0 : wr.cell? ⟨w.heap.size + 1 + 1, 0, none⟩ = some (.int .i64 0) := hF.cell 0
      have z1 : wr.cell? ⟨w.heap.size + 1 + 1, 1, none⟩ = some (.int .i64 0) := hF.cell 1
      have z2 : wr.cell? ⟨w.heap.size + 1 + 1, 2, none⟩ = some (.int .i64 0) := hF.cell 2
      have g1 := hM.free
      have g2 := hF.free
      go_region_held3 (fun w' => w'.cell? ⟨w.heap.size, 3, none⟩ = some (.int .i64 line) ∧ w'.cell? ⟨w.heap.size, 4, none⟩ = some (.int .i64 col)) (first | go_keep | exact kx) (fail)
      have hM5 := (nine_fst hM (q := w.heap.size + 1 + 1) (by omega) (.int .i64 0) (.int .i64 0) (.string ⟨#[]⟩) (.int .i64 0) (.int .i64 0) (.int .i64 0) (.int .i64 5) (.int .i64 line) (.int .i64 col)).drew
      have hF5 := (nine_snd hF (p := w.heap.size + 1) (by omega) (.int .i64 0) (.int .i64 0) (.string ⟨#[]⟩) (.int .i64 0) (.int .i64 0) (.int .i64 0) (.int .i64 5) (.int .i64 line) (.int .i64 col)).drew
      have hb5 := below_drewN (nine_below hb (p := w.heap.size + 1) (q := w.heap.size + 1 + 1) (by omega) (by omega) (.int .i64 0) (.int .i64 0) (.string ⟨#[]⟩) (.int .i64 0) (.int .i64 0) (.int .i64 0) (.int .i64 5) (.int .i64 line) (.int .i64 col)) 1
      unfold nine at hM5 hF5 hb5
      generalize hW5 : World.drew _ = W5
      rw [hW5] at hM5 hF5
      have hb6 : Below w.heap.size w W5 := hW5 ▸ hb5
      clear hW5 hb5 kx x3 x4 y0 y1 y2 y3 y4 y5 z0 z1 z2 g1 g2 hM hF hL hb hown
      have y0 : W5.cell? ⟨w.heap.size + 1, 0, none⟩ = some (.int .i64 0) := hM5.cell 0
      have y1 : W5.cell? ⟨w.heap.size + 1, 1, none⟩ = some (.int .i64 0) := hM5.cell 1
      have y2 : W5.cell? ⟨w.heap.size + 1, 2, none⟩ = some (.string ⟨#[]⟩) := hM5.cell 2
      have y3 : W5.cell? ⟨w.heap.size + 1, 3, none⟩ = some (.int .i64 0) := hM5.cell 3
      have y4 : W5.cell? ⟨w.heap.size + 1, 4, none⟩ = some (.int .i64 0) := hM5.cell 4
      have y5 : W5.cell? ⟨w.heap.size + 1, 5, none⟩ = some (.int .i64 0) := hM5.cell 5
      have z0 : W5.cell? ⟨w.heap.size + 1 + 1, 0, none⟩ = some (.int .i64 5) := hF5.cell 0
      have z1 : W5.cell? ⟨w.heap.size + 1 + 1, 1, none⟩ = some (.int .i64 line) := hF5.cell 1
      have z2 : W5.cell? ⟨w.heap.size + 1 + 1, 2, none⟩ = some (.int .i64 col) := hF5.cell 2
      clear hM5 hF5
      go_wp2_with fail
      exact bodyPost_ret (v := .tuple #[.agg #[.int .i64 0, .int .i64 0, .string ⟨#[]⟩, .int .i64 0, .int .i64 0, .int .i64 0], .agg #[.int .i64 5, .int .i64 line, .int .i64 col]]) (by simp [results, Tryd.results24, go_sem, y0, y1, y2, y3, y4, y5, z0, z1, z2]) rfl ⟨by rw [hR.out]; rfl, hb6⟩
end Go.Proofs.YtmnadgkneaiccaaDoor
