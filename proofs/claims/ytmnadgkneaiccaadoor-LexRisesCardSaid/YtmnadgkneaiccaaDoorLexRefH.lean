/- What the document's own answer for layer 7 is on any place of a text. -/
import Derived.Test.YtmnadgkneaiccaaDoorLexRefG
import Derived.Test.YtmnadgkneaiccaaDoorLexAll
namespace Go.Proofs.YtmnadgkneaiccaaDoor
open Go.ChangeShapes Go.WideShapes Go.ChangeAt Go.RowKit

/-- the document's answer: a token and no fault, or a fault -/
def rnv (X : LM.Nx) (a : Nat) : Value := if X.t.e = 0 then .tuple #[.agg #[.int .i64 X.t.k, .int .i64 X.t.n, .string ⟨X.t.s.toArray⟩, .int .i64 X.line, .int .i64 X.col, .int .i64 (a + X.len : Nat)], .agg #[.int .i64 0, .int .i64 0, .int .i64 0]]
  else .tuple #[.agg #[.int .i64 0, .int .i64 0, .string ⟨#[]⟩, .int .i64 0, .int .i64 0, .int .i64 0], .agg #[.int .i64 X.t.e, .int .i64 X.line, .int .i64 X.col]]
theorem rnv_rv (T : LM.Tk) (l c : Int) (k a : Nat) : rnv ⟨T, l, c, k + T.len⟩ a = rv T l c (a + k) := by
  unfold rnv rv
  simp only
  rw [show a + (k + T.len) = a + k + T.len by omega]

set_option maxRecDepth 100000 in
set_option maxHeartbeats 1000000 in
theorem rNext_no (s : ByteArray) (a line col : Int) (h : noplace s a line col) (w : World) :
    Calls Tryd.prog 11 #[.string s, .int .i64 a, .int .i64 line, .int .i64 col] w fun e w' => e = .returned (.tuple #[.agg #[.int .i64 0, .int .i64 0, .string ⟨#[]⟩, .int .i64 0, .int .i64 0, .int .i64 0], .agg #[.int .i64 3, .int .i64 0, .int .i64 0]]) ∧ Went w w' := by
  unfold noplace at h
  have h' : a < 0 ∨ (s.size : Int) < a ∨ line < 1 ∨ 1073741824 < line ∨ col < 1 ∨ 1073741824 < col := by omega
  clear h
  by_cases g1 : a < 0
  · go_enter Tryd.func11, Tryd.ntmps11
    go_wp2
    exact bodyPost_ret (v := .tuple #[.agg #[.int .i64 0, .int .i64 0, .string ⟨#[]⟩, .int .i64 0, .int .i64 0, .int .i64 0], .agg #[.int .i64 3, .int .i64 0, .int .i64 0]]) (by simp [results, Tryd.results11, go_sem]) rfl ⟨rfl, ((Below.refl _ w).alloc (Nat.le_refl _) _).alloc (by simp) _⟩
  by_cases g2 : (s.size : Int) < a
  · go_enter Tryd.func11, Tryd.ntmps11
    go_wp2
    exact bodyPost_ret (v := .tuple #[.agg #[.int .i64 0, .int .i64 0, .string ⟨#[]⟩, .int .i64 0, .int .i64 0, .int .i64 0], .agg #[.int .i64 3, .int .i64 0, .int .i64 0]]) (by simp [results, Tryd.results11, go_sem]) rfl ⟨rfl, ((Below.refl _ w).alloc (Nat.le_refl _) _).alloc (by simp) _⟩
  by_cases g3 : line < 1
  · go_enter Tryd.func11, Tryd.ntmps11
    go_wp2
    exact bodyPost_ret (v := .tuple #[.agg #[.int .i64 0, .int .i64 0, .string ⟨#[]⟩, .int .i64 0, .int .i64 0, .int .i64 0], .agg #[.int .i64 3, .int .i64 0, .int .i64 0]]) (by simp [results, Tryd.results11, go_sem]) rfl ⟨rfl, ((Below.refl _ w).alloc (Nat.le_refl _) _).alloc (by simp) _⟩
  by_cases g4 : 1073741824 < line
  · go_enter Tryd.func11, Tryd.ntmps11
    go_wp2
    exact bodyPost_ret (v := .tuple #[.agg #[.int .i64 0, .int .i64 0, .string ⟨#[]⟩, .int .i64 0, .int .i64 0, .int .i64 0], .agg #[.int .i64 3, .int .i64 0, .int .i64 0]]) (by simp [results, Tryd.results11, go_sem]) rfl ⟨rfl, ((Below.refl _ w).alloc (Nat.le_refl _) _).alloc (by simp) _⟩
  by_cases g5 : col < 1
  · go_enter Tryd.func11, Tryd.ntmps11
    go_wp2
    exact bodyPost_ret (v := .tuple #[.agg #[.int .i64 0, .int .i64 0, .string ⟨#[]⟩, .int .i64 0, .int .i64 0, .int .i64 0], .agg #[.int .i64 3, .int .i64 0, .int .i64 0]]) (by simp [results, Tryd.results11, go_sem]) rfl ⟨rfl, ((Below.refl _ w).alloc (Nat.le_refl _) _).alloc (by simp) _⟩
  have g6 : 1073741824 < col := by omega
  go_enter Tryd.func11, Tryd.ntmps11
  go_wp2
  exact bodyPost_ret (v := .tuple #[.agg #[.int .i64 0, .int .i64 0, .string ⟨#[]⟩, .int .i64 0, .int .i64 0, .int .i64 0], .agg #[.int .i64 3, .int .i64 0, .int .i64 0]]) (by simp [results, Tryd.results11, go_sem]) rfl ⟨rfl, ((Below.refl _ w).alloc (Nat.le_refl _) _).alloc (by simp) _⟩

set_option maxRecDepth 100000 in
set_option maxHeartbeats 8000000 in
theorem rNext_any (s : ByteArray) (hs : s.size ≤ 900000) (a : Nat) (ha : a ≤ s.size) (line col : Int) (hl : 1 ≤ line ∧ line ≤ 1073741824) (hc : 1 ≤ col ∧ col ≤ 1073741824) (w : World) :
    Calls Tryd.prog 11 #[.string s, .int .i64 (a : Nat), .int .i64 line, .int .i64 col] w fun e w' => e = .returned (rnv (LM.nx (s.data.toList.drop a) line col) a) ∧ Went w w' := by
  have hsk := rskip_any s (by omega) a ha line col (by omega) (by omega) (by omega) (by omega)
  have hst := LM.skp_stands false (s.data.toList.drop a)
  have hkl := LM.skp_le false (s.data.toList.drop a)
  rw [List.length_drop, size_len] at hkl
  have hX : LM.nx (s.data.toList.drop a) line col = ⟨LM.scn ((s.data.toList.drop a).drop (LM.skp false (s.data.toList.drop a))), (LM.mv (seg s a (LM.skp false (s.data.toList.drop a))) line col).1, (LM.mv (seg s a (LM.skp false (s.data.toList.drop a))) line col).2, LM.skp false (s.data.toList.drop a) + (LM.scn ((s.data.toList.drop a).drop (LM.skp false (s.data.toList.drop a)))).len⟩ := rfl
  rw [hX, rnv_rv]
  rw [List.drop_drop] at hst ⊢
  have hbd := LM.mv_bd (seg s a (LM.skp false (s.data.toList.drop a))) line col hc.1
  rw [seg_len (by omega)] at hbd
  generalize LM.skp false (s.data.toList.drop a) = k at *
  obtain ⟨l', hl'⟩ : ∃ l', (LM.mv (seg s a k) line col).1 = l' := ⟨_, rfl⟩
  obtain ⟨c', hc'⟩ : ∃ c', (LM.mv (seg s a k) line col).2 = c' := ⟨_, rfl⟩
  rw [hl', hc'] at hsk hbd ⊢
  clear hl' hc' hX
  obtain ⟨m, hm⟩ : ∃ m, a + k = m := ⟨_, rfl⟩
  rw [hm] at hsk hst ⊢
  have hms : m ≤ s.size := by omega
  obtain ⟨T, hT⟩ : ∃ T, LM.scn (s.data.toList.drop m) = T := ⟨_, rfl⟩
  rw [hT]
  have hT' := Lib.hid hT
  have hsk' := Lib.hid hsk
  have hst' := Lib.hid hst
  clear hsk hst hT hm hkl
  go_enter Tryd.func11, Tryd.ntmps11
  go_upto_region 5 with (go_at_call 22; refine (hsk'.out _).mono ?_; rintro e w' ⟨rfl, rfl⟩)
  have hB : ∀ o1 o2 o3, Below w.heap.size w (((w.alloc o1).alloc o2).alloc o3) := fun o1 o2 o3 => below3 w o1 o2 o3
  by_cases hme : m < s.size
  · have e0 : ((m : Int) == s.size) = false := by simp only [beq_eq_false_iff_ne, ne_eq]; omega
    by_cases hx40 : (s[m].toNat : Int) = 40
    · have hp : rv T l' c' m = .tuple #[.agg #[.int .i64 1, .int .i64 0, .string ⟨#[]⟩, .int .i64 l', .int .i64 c', .int .i64 ((m : Int) + 1)], .agg #[.int .i64 0, .int .i64 0, .int .i64 0]] := by
        rw [← hT'.out, drop_cons hme, LM.scn_eq]
        rw [if_neg (by omega), if_neg (by omega), if_neg (by omega), if_pos hx40, rv_tok]; rfl
      have hp' := Lib.hid hp
      clear hp hT'
      go_wp2
      exact bodyPost_ret (v := .tuple #[.agg #[.int .i64 1, .int .i64 0, .string ⟨#[]⟩, .int .i64 l', .int .i64 c', .int .i64 ((m : Int) + 1)], .agg #[.int .i64 0, .int .i64 0, .int .i64 0]]) (by simp [results, Tryd.results11, go_sem]) rfl ⟨by rw [hp'.out], hB _ _ _⟩
    by_cases hx41 : (s[m].toNat : Int) = 41
    · have hp : rv T l' c' m = .tuple #[.agg #[.int .i64 2, .int .i64 0, .string ⟨#[]⟩, .int .i64 l', .int .i64 c', .int .i64 ((m : Int) + 1)], .agg #[.int .i64 0, .int .i64 0, .int .i64 0]] := by
        rw [← hT'.out, drop_cons hme, LM.scn_eq]
        rw [if_neg (by omega), if_neg (by omega), if_neg (by omega), if_neg (by omega), if_pos hx41, rv_tok]; rfl
      have hp' := Lib.hid hp
      clear hp hT'
      go_wp2
      exact bodyPost_ret (v := .tuple #[.agg #[.int .i64 2, .int .i64 0, .string ⟨#[]⟩, .int .i64 l', .int .i64 c', .int .i64 ((m : Int) + 1)], .agg #[.int .i64 0, .int .i64 0, .int .i64 0]]) (by simp [results, Tryd.results11, go_sem]) rfl ⟨by rw [hp'.out], hB _ _ _⟩
    by_cases hx39 : (s[m].toNat : Int) = 39
    · have hp : rv T l' c' m = .tuple #[.agg #[.int .i64 4, .int .i64 0, .string ⟨#[]⟩, .int .i64 l', .int .i64 c', .int .i64 ((m : Int) + 1)], .agg #[.int .i64 0, .int .i64 0, .int .i64 0]] := by
        rw [← hT'.out, drop_cons hme, LM.scn_eq]
        rw [if_neg (by omega), if_neg (by omega), if_neg (by omega), if_neg (by omega), if_neg (by omega), if_pos hx39, rv_tok]; rfl
      have hp' := Lib.hid hp
      clear hp hT'
      go_wp2
      exact bodyPost_ret (v := .tuple #[.agg #[.int .i64 4, .int .i64 0, .string ⟨#[]⟩, .int .i64 l', .int .i64 c', .int .i64 ((m : Int) + 1)], .agg #[.int .i64 0, .int .i64 0, .int .i64 0]]) (by simp [results, Tryd.results11, go_sem]) rfl ⟨by rw [hp'.out], hB _ _ _⟩
    by_cases hx96 : (s[m].toNat : Int) = 96
    · have hp : rv T l' c' m = .tuple #[.agg #[.int .i64 5, .int .i64 0, .string ⟨#[]⟩, .int .i64 l', .int .i64 c', .int .i64 ((m : Int) + 1)], .agg #[.int .i64 0, .int .i64 0, .int .i64 0]] := by
        rw [← hT'.out, drop_cons hme, LM.scn_eq]
        rw [if_neg (by omega), if_neg (by omega), if_neg (by omega), if_neg (by omega), if_neg (by omega), if_neg (by omega), if_pos hx96, rv_tok]; rfl
      have hp' := Lib.hid hp
      clear hp hT'
      go_wp2
      exact bodyPost_ret (v := .tuple #[.agg #[.int .i64 5, .int .i64 0, .string ⟨#[]⟩, .int .i64 l', .int .i64 c', .int .i64 ((m : Int) + 1)], .agg #[.int .i64 0, .int .i64 0, .int .i64 0]]) (by simp [results, Tryd.results11, go_sem]) rfl ⟨by rw [hp'.out], hB _ _ _⟩
    by_cases hx44 : (s[m].toNat : Int) = 44
    · by_cases h2 : m + 1 < s.size
      · by_cases hy : (s[m + 1].toNat : Int) = 64
        · have hp : rv T l' c' m = .tuple #[.agg #[.int .i64 7, .int .i64 0, .string ⟨#[]⟩, .int .i64 l', .int .i64 c', .int .i64 ((m : Int) + 2)], .agg #[.int .i64 0, .int .i64 0, .int .i64 0]] := by
            rw [← hT'.out, drop_cons hme, LM.scn_eq]
            rw [if_pos hx44, if_pos (by rw [drop_cons h2]; exact hy), rv_tok]; rfl
          have hp' := Lib.hid hp
          clear hp hT'
          go_wp2
          exact bodyPost_ret (v := .tuple #[.agg #[.int .i64 7, .int .i64 0, .string ⟨#[]⟩, .int .i64 l', .int .i64 c', .int .i64 ((m : Int) + 2)], .agg #[.int .i64 0, .int .i64 0, .int .i64 0]]) (by simp [results, Tryd.results11, go_sem]) rfl ⟨by rw [hp'.out], hB _ _ _⟩
        · have f2 : ((s[m + 1].toNat : Int) == 64) = false := by simpa using hy
          have hp : rv T l' c' m = .tuple #[.agg #[.int .i64 6, .int .i64 0, .string ⟨#[]⟩, .int .i64 l', .int .i64 c', .int .i64 ((m : Int) + 1)], .agg #[.int .i64 0, .int .i64 0, .int .i64 0]] := by
            rw [← hT'.out, drop_cons hme, LM.scn_eq]
            rw [if_pos hx44, if_neg (by rw [drop_cons h2]; exact hy), rv_tok]; rfl
          have hp' := Lib.hid hp
          clear hp hT'
          clear hy
          go_wp2
          exact bodyPost_ret (v := .tuple #[.agg #[.int .i64 6, .int .i64 0, .string ⟨#[]⟩, .int .i64 l', .int .i64 c', .int .i64 ((m : Int) + 1)], .agg #[.int .i64 0, .int .i64 0, .int .i64 0]]) (by simp [results, Tryd.results11, go_sem]) rfl ⟨by rw [hp'.out], hB _ _ _⟩
      · have hp : rv T l' c' m = .tuple #[.agg #[.int .i64 6, .int .i64 0, .string ⟨#[]⟩, .int .i64 l', .int .i64 c', .int .i64 ((m : Int) + 1)], .agg #[.int .i64 0, .int .i64 0, .int .i64 0]] := by
          rw [← hT'.out, drop_cons hme, LM.scn_eq]
          rw [if_pos hx44, if_neg (by rw [drop_end (by omega)]; decide), rv_tok]; rfl
        have hp' := Lib.hid hp
        clear hp hT'
        go_wp2
        exact bodyPost_ret (v := .tuple #[.agg #[.int .i64 6, .int .i64 0, .string ⟨#[]⟩, .int .i64 l', .int .i64 c', .int .i64 ((m : Int) + 1)], .agg #[.int .i64 0, .int .i64 0, .int .i64 0]]) (by simp [results, Tryd.results11, go_sem]) rfl ⟨by rw [hp'.out], hB _ _ _⟩
    by_cases hx35 : (s[m].toNat : Int) = 35
    · by_cases h40 : LM.hd (s.data.toList.drop (m + 1)) = 40
      · obtain ⟨h2, hy⟩ : ∃ h2 : m + 1 < s.size, (s[m + 1].toNat : Int) = 40 := by
          by_cases h2 : m + 1 < s.size
          · exact ⟨h2, by rw [drop_cons h2] at h40; exact h40⟩
          · rw [drop_end (by omega)] at h40; exact absurd h40 (by decide)
        have hp : rv T l' c' m = .tuple #[.agg #[.int .i64 3, .int .i64 0, .string ⟨#[]⟩, .int .i64 l', .int .i64 c', .int .i64 ((m : Int) + 2)], .agg #[.int .i64 0, .int .i64 0, .int .i64 0]] := by
          rw [← hT'.out, drop_cons hme, LM.scn_eq]
          rw [if_neg hx44, if_pos ⟨hx35, h40⟩, rv_tok]; rfl
        have hp' := Lib.hid hp
        clear hp hT'
        clear h40
        go_wp2
        exact bodyPost_ret (v := .tuple #[.agg #[.int .i64 3, .int .i64 0, .string ⟨#[]⟩, .int .i64 l', .int .i64 c', .int .i64 ((m : Int) + 2)], .agg #[.int .i64 0, .int .i64 0, .int .i64 0]]) (by simp [results, Tryd.results11, go_sem]) rfl ⟨by rw [hp'.out], hB _ _ _⟩
      · have hcon := rsharp_any s (by omega) m hme hx35 h40 l' c'
        by_cases h2 : m + 1 < s.size
        · have f2 : ((s[m + 1].toNat : Int) == 40) = false := by
            rw [drop_cons h2] at h40
            simp only [beq_eq_false_iff_ne, ne_eq]; exact h40
          clear h40
          have hco := hcon
          clear hcon
          rw [hT'.out] at hco
          unfold t0 at hco
          clear hT'
          by_cases hTe : T.e = 0
          · have hrv : rv T l' c' m = .tuple #[.agg #[.int .i64 T.k, .int .i64 T.n, .string ⟨T.s.toArray⟩, .int .i64 l', .int .i64 c', .int .i64 (m + T.len : Nat)], .agg #[.int .i64 0, .int .i64 0, .int .i64 0]] := by unfold rv; rw [if_pos hTe]
            rw [hrv] at hco
            have hrv' := Lib.hid hrv
            have hco' := Lib.hid hco
            clear hrv hco hTe
            go_wp2_with (
              go_at_call 23
              refine (hco'.out _).mono ?_
              rintro e w1 ⟨rfl, hb1⟩
              have hM1 : Lies w1 w.heap.size 24 zero6 := (((Lies.made w 24 #[.int .i64 0, .int .i64 0, .string ⟨#[]⟩, .int .i64 0, .int .i64 0, .int .i64 0]).alloc _).alloc _).below hb1 (by simp; omega)
              have hF1 : Lies w1 (w.heap.size + 1) 30 [.int .i64 0, .int .i64 0, .int .i64 0] := ((lies_made2 w _ 30 #[.int .i64 0, .int .i64 0, .int .i64 0]).alloc _).below hb1 (by simp)
              have y0 : w1.cell? ⟨w.heap.size, 0, none⟩ = some (.int .i64 0) := hM1.cell 0
              have y1 : w1.cell? ⟨w.heap.size, 1, none⟩ = some (.int .i64 0) := hM1.cell 1
              have y2 : w1.cell? ⟨w.heap.size, 2, none⟩ = some (.string ⟨#[]⟩) := hM1.cell 2
              have y3 : w1.cell? ⟨w.heap.size, 3, none⟩ = some (.int .i64 0) := hM1.cell 3
              have y4 : w1.cell? ⟨w.heap.size, 4, none⟩ = some (.int .i64 0) := hM1.cell 4
              have y5 : w1.cell? ⟨w.heap.size, 5, none⟩ = some (.int .i64 0) := hM1.cell 5
              have z0 : w1.cell? ⟨w.heap.size + 1, 0, none⟩ = some (.int .i64 0) := hF1.cell 0
              have z1 : w1.cell? ⟨w.heap.size + 1, 1, none⟩ = some (.int .i64 0) := hF1.cell 1
              have z2 : w1.cell? ⟨w.heap.size + 1, 2, none⟩ = some (.int .i64 0) := hF1.cell 2
              have g1 := hM1.free
              have g2 := hF1.free
              clear hM1 hF1)
            exact bodyPost_ret (v := .tuple #[.agg #[.int .i64 T.k, .int .i64 T.n, .string ⟨T.s.toArray⟩, .int .i64 l', .int .i64 c', .int .i64 (m + T.len : Nat)], .agg #[.int .i64 0, .int .i64 0, .int .i64 0]]) (by simp [results, Tryd.results11, go_sem, y0, y1, y2, y3, y4, y5, z0, z1, z2]) rfl ⟨by rw [hrv'.out], nine_below ((below3 w _ _ _).trans (hb1.mono (by simp; omega))) (p := w.heap.size) (q := w.heap.size + 1) (by omega) (by omega) _ _ _ _ _ _ _ _ _⟩
          · have hrv : rv T l' c' m = .tuple #[.agg #[.int .i64 0, .int .i64 0, .string ⟨#[]⟩, .int .i64 0, .int .i64 0, .int .i64 0], .agg #[.int .i64 T.e, .int .i64 l', .int .i64 c']] := by unfold rv; rw [if_neg hTe]
            rw [hrv] at hco
            have hrv' := Lib.hid hrv
            have hco' := Lib.hid hco
            clear hrv hco hTe
            go_wp2_with (
              go_at_call 23
              refine (hco'.out _).mono ?_
              rintro e w1 ⟨rfl, hb1⟩
              have hM1 : Lies w1 w.heap.size 24 zero6 := (((Lies.made w 24 #[.int .i64 0, .int .i64 0, .string ⟨#[]⟩, .int .i64 0, .int .i64 0, .int .i64 0]).alloc _).alloc _).below hb1 (by simp; omega)
              have hF1 : Lies w1 (w.heap.size + 1) 30 [.int .i64 0, .int .i64 0, .int .i64 0] := ((lies_made2 w _ 30 #[.int .i64 0, .int .i64 0, .int .i64 0]).alloc _).below hb1 (by simp)
              have y0 : w1.cell? ⟨w.heap.size, 0, none⟩ = some (.int .i64 0) := hM1.cell 0
              have y1 : w1.cell? ⟨w.heap.size, 1, none⟩ = some (.int .i64 0) := hM1.cell 1
              have y2 : w1.cell? ⟨w.heap.size, 2, none⟩ = some (.string ⟨#[]⟩) := hM1.cell 2
              have y3 : w1.cell? ⟨w.heap.size, 3, none⟩ = some (.int .i64 0) := hM1.cell 3
              have y4 : w1.cell? ⟨w.heap.size, 4, none⟩ = some (.int .i64 0) := hM1.cell 4
              have y5 : w1.cell? ⟨w.heap.size, 5, none⟩ = some (.int .i64 0) := hM1.cell 5
              have z0 : w1.cell? ⟨w.heap.size + 1, 0, none⟩ = some (.int .i64 0) := hF1.cell 0
              have z1 : w1.cell? ⟨w.heap.size + 1, 1, none⟩ = some (.int .i64 0) := hF1.cell 1
              have z2 : w1.cell? ⟨w.heap.size + 1, 2, none⟩ = some (.int .i64 0) := hF1.cell 2
              have g1 := hM1.free
              have g2 := hF1.free
              clear hM1 hF1)
            exact bodyPost_ret (v := .tuple #[.agg #[.int .i64 0, .int .i64 0, .string ⟨#[]⟩, .int .i64 0, .int .i64 0, .int .i64 0], .agg #[.int .i64 T.e, .int .i64 l', .int .i64 c']]) (by simp [results, Tryd.results11, go_sem, y0, y1, y2, y3, y4, y5, z0, z1, z2]) rfl ⟨by rw [hrv'.out], nine_below ((below3 w _ _ _).trans (hb1.mono (by simp; omega))) (p := w.heap.size) (q := w.heap.size + 1) (by omega) (by omega) _ _ _ _ _ _ _ _ _⟩
        · clear h40
          have hco := hcon
          clear hcon
          rw [hT'.out] at hco
          unfold t0 at hco
          clear hT'
          by_cases hTe : T.e = 0
          · have hrv : rv T l' c' m = .tuple #[.agg #[.int .i64 T.k, .int .i64 T.n, .string ⟨T.s.toArray⟩, .int .i64 l', .int .i64 c', .int .i64 (m + T.len : Nat)], .agg #[.int .i64 0, .int .i64 0, .int .i64 0]] := by unfold rv; rw [if_pos hTe]
            rw [hrv] at hco
            have hrv' := Lib.hid hrv
            have hco' := Lib.hid hco
            clear hrv hco hTe
            go_wp2_with (
              go_at_call 23
              refine (hco'.out _).mono ?_
              rintro e w1 ⟨rfl, hb1⟩
              have hM1 : Lies w1 w.heap.size 24 zero6 := (((Lies.made w 24 #[.int .i64 0, .int .i64 0, .string ⟨#[]⟩, .int .i64 0, .int .i64 0, .int .i64 0]).alloc _).alloc _).below hb1 (by simp; omega)
              have hF1 : Lies w1 (w.heap.size + 1) 30 [.int .i64 0, .int .i64 0, .int .i64 0] := ((lies_made2 w _ 30 #[.int .i64 0, .int .i64 0, .int .i64 0]).alloc _).below hb1 (by simp)
              have y0 : w1.cell? ⟨w.heap.size, 0, none⟩ = some (.int .i64 0) := hM1.cell 0
              have y1 : w1.cell? ⟨w.heap.size, 1, none⟩ = some (.int .i64 0) := hM1.cell 1
              have y2 : w1.cell? ⟨w.heap.size, 2, none⟩ = some (.string ⟨#[]⟩) := hM1.cell 2
              have y3 : w1.cell? ⟨w.heap.size, 3, none⟩ = some (.int .i64 0) := hM1.cell 3
              have y4 : w1.cell? ⟨w.heap.size, 4, none⟩ = some (.int .i64 0) := hM1.cell 4
              have y5 : w1.cell? ⟨w.heap.size, 5, none⟩ = some (.int .i64 0) := hM1.cell 5
              have z0 : w1.cell? ⟨w.heap.size + 1, 0, none⟩ = some (.int .i64 0) := hF1.cell 0
              have z1 : w1.cell? ⟨w.heap.size + 1, 1, none⟩ = some (.int .i64 0) := hF1.cell 1
              have z2 : w1.cell? ⟨w.heap.size + 1, 2, none⟩ = some (.int .i64 0) := hF1.cell 2
              have g1 := hM1.free
              have g2 := hF1.free
              clear hM1 hF1)
            exact bodyPost_ret (v := .tuple #[.agg #[.int .i64 T.k, .int .i64 T.n, .string ⟨T.s.toArray⟩, .int .i64 l', .int .i64 c', .int .i64 (m + T.len : Nat)], .agg #[.int .i64 0, .int .i64 0, .int .i64 0]]) (by simp [results, Tryd.results11, go_sem, y0, y1, y2, y3, y4, y5, z0, z1, z2]) rfl ⟨by rw [hrv'.out], nine_below ((below3 w _ _ _).trans (hb1.mono (by simp; omega))) (p := w.heap.size) (q := w.heap.size + 1) (by omega) (by omega) _ _ _ _ _ _ _ _ _⟩
          · have hrv : rv T l' c' m = .tuple #[.agg #[.int .i64 0, .int .i64 0, .string ⟨#[]⟩, .int .i64 0, .int .i64 0, .int .i64 0], .agg #[.int .i64 T.e, .int .i64 l', .int .i64 c']] := by unfold rv; rw [if_neg hTe]
            rw [hrv] at hco
            have hrv' := Lib.hid hrv
            have hco' := Lib.hid hco
            clear hrv hco hTe
            go_wp2_with (
              go_at_call 23
              refine (hco'.out _).mono ?_
              rintro e w1 ⟨rfl, hb1⟩
              have hM1 : Lies w1 w.heap.size 24 zero6 := (((Lies.made w 24 #[.int .i64 0, .int .i64 0, .string ⟨#[]⟩, .int .i64 0, .int .i64 0, .int .i64 0]).alloc _).alloc _).below hb1 (by simp; omega)
              have hF1 : Lies w1 (w.heap.size + 1) 30 [.int .i64 0, .int .i64 0, .int .i64 0] := ((lies_made2 w _ 30 #[.int .i64 0, .int .i64 0, .int .i64 0]).alloc _).below hb1 (by simp)
              have y0 : w1.cell? ⟨w.heap.size, 0, none⟩ = some (.int .i64 0) := hM1.cell 0
              have y1 : w1.cell? ⟨w.heap.size, 1, none⟩ = some (.int .i64 0) := hM1.cell 1
              have y2 : w1.cell? ⟨w.heap.size, 2, none⟩ = some (.string ⟨#[]⟩) := hM1.cell 2
              have y3 : w1.cell? ⟨w.heap.size, 3, none⟩ = some (.int .i64 0) := hM1.cell 3
              have y4 : w1.cell? ⟨w.heap.size, 4, none⟩ = some (.int .i64 0) := hM1.cell 4
              have y5 : w1.cell? ⟨w.heap.size, 5, none⟩ = some (.int .i64 0) := hM1.cell 5
              have z0 : w1.cell? ⟨w.heap.size + 1, 0, none⟩ = some (.int .i64 0) := hF1.cell 0
              have z1 : w1.cell? ⟨w.heap.size + 1, 1, none⟩ = some (.int .i64 0) := hF1.cell 1
              have z2 : w1.cell? ⟨w.heap.size + 1, 2, none⟩ = some (.int .i64 0) := hF1.cell 2
              have g1 := hM1.free
              have g2 := hF1.free
              clear hM1 hF1)
            exact bodyPost_ret (v := .tuple #[.agg #[.int .i64 0, .int .i64 0, .string ⟨#[]⟩, .int .i64 0, .int .i64 0, .int .i64 0], .agg #[.int .i64 T.e, .int .i64 l', .int .i64 c']]) (by simp [results, Tryd.results11, go_sem, y0, y1, y2, y3, y4, y5, z0, z1, z2]) rfl ⟨by rw [hrv'.out], nine_below ((below3 w _ _ _).trans (hb1.mono (by simp; omega))) (p := w.heap.size) (q := w.heap.size + 1) (by omega) (by omega) _ _ _ _ _ _ _ _ _⟩
    by_cases hx34 : (s[m].toNat : Int) = 34
    · have hTq : LM.ofq (LM.qt (s.data.toList.drop (m + 1)) [] 1) = T := by
        rw [← hT'.out, drop_cons hme, LM.scn_eq, if_neg (by omega), if_neg (by omega), if_neg (by omega), if_neg (by omega), if_neg (by omega), if_neg (by omega), if_neg (by omega), if_pos hx34]
      have hco := rstr_any s hs m hme l' c'
      rw [hTq] at hco
      unfold t0 at hco
      clear hTq
      clear hT'
      by_cases hTe : T.e = 0
      · have hrv : rv T l' c' m = .tuple #[.agg #[.int .i64 T.k, .int .i64 T.n, .string ⟨T.s.toArray⟩, .int .i64 l', .int .i64 c', .int .i64 (m + T.len : Nat)], .agg #[.int .i64 0, .int .i64 0, .int .i64 0]] := by unfold rv; rw [if_pos hTe]
        rw [hrv] at hco
        have hrv' := Lib.hid hrv
        have hco' := Lib.hid hco
        clear hrv hco hTe
        go_wp2_with (
          go_at_call 24
          refine (hco'.out _).mono ?_
          rintro e w1 ⟨rfl, hb1⟩
          have hM1 : Lies w1 w.heap.size 24 zero6 := (((Lies.made w 24 #[.int .i64 0, .int .i64 0, .string ⟨#[]⟩, .int .i64 0, .int .i64 0, .int .i64 0]).alloc _).alloc _).below hb1 (by simp; omega)
          have hF1 : Lies w1 (w.heap.size + 1) 30 [.int .i64 0, .int .i64 0, .int .i64 0] := ((lies_made2 w _ 30 #[.int .i64 0, .int .i64 0, .int .i64 0]).alloc _).below hb1 (by simp)
          have y0 : w1.cell? ⟨w.heap.size, 0, none⟩ = some (.int .i64 0) := hM1.cell 0
          have y1 : w1.cell? ⟨w.heap.size, 1, none⟩ = some (.int .i64 0) := hM1.cell 1
          have y2 : w1.cell? ⟨w.heap.size, 2, none⟩ = some (.string ⟨#[]⟩) := hM1.cell 2
          have y3 : w1.cell? ⟨w.heap.size, 3, none⟩ = some (.int .i64 0) := hM1.cell 3
          have y4 : w1.cell? ⟨w.heap.size, 4, none⟩ = some (.int .i64 0) := hM1.cell 4
          have y5 : w1.cell? ⟨w.heap.size, 5, none⟩ = some (.int .i64 0) := hM1.cell 5
          have z0 : w1.cell? ⟨w.heap.size + 1, 0, none⟩ = some (.int .i64 0) := hF1.cell 0
          have z1 : w1.cell? ⟨w.heap.size + 1, 1, none⟩ = some (.int .i64 0) := hF1.cell 1
          have z2 : w1.cell? ⟨w.heap.size + 1, 2, none⟩ = some (.int .i64 0) := hF1.cell 2
          have g1 := hM1.free
          have g2 := hF1.free
          clear hM1 hF1)
        exact bodyPost_ret (v := .tuple #[.agg #[.int .i64 T.k, .int .i64 T.n, .string ⟨T.s.toArray⟩, .int .i64 l', .int .i64 c', .int .i64 (m + T.len : Nat)], .agg #[.int .i64 0, .int .i64 0, .int .i64 0]]) (by simp [results, Tryd.results11, go_sem, y0, y1, y2, y3, y4, y5, z0, z1, z2]) rfl ⟨by rw [hrv'.out], nine_below ((below3 w _ _ _).trans (hb1.mono (by simp; omega))) (p := w.heap.size) (q := w.heap.size + 1) (by omega) (by omega) _ _ _ _ _ _ _ _ _⟩
      · have hrv : rv T l' c' m = .tuple #[.agg #[.int .i64 0, .int .i64 0, .string ⟨#[]⟩, .int .i64 0, .int .i64 0, .int .i64 0], .agg #[.int .i64 T.e, .int .i64 l', .int .i64 c']] := by unfold rv; rw [if_neg hTe]
        rw [hrv] at hco
        have hrv' := Lib.hid hrv
        have hco' := Lib.hid hco
        clear hrv hco hTe
        go_wp2_with (
          go_at_call 24
          refine (hco'.out _).mono ?_
          rintro e w1 ⟨rfl, hb1⟩
          have hM1 : Lies w1 w.heap.size 24 zero6 := (((Lies.made w 24 #[.int .i64 0, .int .i64 0, .string ⟨#[]⟩, .int .i64 0, .int .i64 0, .int .i64 0]).alloc _).alloc _).below hb1 (by simp; omega)
          have hF1 : Lies w1 (w.heap.size + 1) 30 [.int .i64 0, .int .i64 0, .int .i64 0] := ((lies_made2 w _ 30 #[.int .i64 0, .int .i64 0, .int .i64 0]).alloc _).below hb1 (by simp)
          have y0 : w1.cell? ⟨w.heap.size, 0, none⟩ = some (.int .i64 0) := hM1.cell 0
          have y1 : w1.cell? ⟨w.heap.size, 1, none⟩ = some (.int .i64 0) := hM1.cell 1
          have y2 : w1.cell? ⟨w.heap.size, 2, none⟩ = some (.string ⟨#[]⟩) := hM1.cell 2
          have y3 : w1.cell? ⟨w.heap.size, 3, none⟩ = some (.int .i64 0) := hM1.cell 3
          have y4 : w1.cell? ⟨w.heap.size, 4, none⟩ = some (.int .i64 0) := hM1.cell 4
          have y5 : w1.cell? ⟨w.heap.size, 5, none⟩ = some (.int .i64 0) := hM1.cell 5
          have z0 : w1.cell? ⟨w.heap.size + 1, 0, none⟩ = some (.int .i64 0) := hF1.cell 0
          have z1 : w1.cell? ⟨w.heap.size + 1, 1, none⟩ = some (.int .i64 0) := hF1.cell 1
          have z2 : w1.cell? ⟨w.heap.size + 1, 2, none⟩ = some (.int .i64 0) := hF1.cell 2
          have g1 := hM1.free
          have g2 := hF1.free
          clear hM1 hF1)
        exact bodyPost_ret (v := .tuple #[.agg #[.int .i64 0, .int .i64 0, .string ⟨#[]⟩, .int .i64 0, .int .i64 0, .int .i64 0], .agg #[.int .i64 T.e, .int .i64 l', .int .i64 c']]) (by simp [results, Tryd.results11, go_sem, y0, y1, y2, y3, y4, y5, z0, z1, z2]) rfl ⟨by rw [hrv'.out], nine_below ((below3 w _ _ _).trans (hb1.mono (by simp; omega))) (p := w.heap.size) (q := w.heap.size + 1) (by omega) (by omega) _ _ _ _ _ _ _ _ _⟩
    have hTw : LM.wrd ((s.data.toList.drop m).take (LM.wln (s.data.toList.drop m))) = T := by
      rw [← hT'.out]
      conv => rhs; rw [drop_cons hme, LM.scn_eq, if_neg (by omega), if_neg (by omega), if_neg (by omega), if_neg (by omega), if_neg (by omega), if_neg (by omega), if_neg (by omega), if_neg (by omega)]
      rw [drop_cons hme]
    have hno : ∀ d : UInt8, (s.data.toList.drop m).take (LM.wln (s.data.toList.drop m)) ≠ [35, d] := by
      intro d h
      rw [drop_cons hme] at h
      cases hq : LM.wln (s[m] :: s.data.toList.drop (m + 1)) with
      | zero => rw [hq] at h; cases h
      | succ n =>
        rw [hq, List.take_succ_cons] at h
        injection h with h1 h2
        exact hx35 (by rw [h1]; rfl)
    have f40 : ((s[m].toNat : Int) == 40) = false := by simpa using hx40
    have f41 : ((s[m].toNat : Int) == 41) = false := by simpa using hx41
    have f39 : ((s[m].toNat : Int) == 39) = false := by simpa using hx39
    have f96 : ((s[m].toNat : Int) == 96) = false := by simpa using hx96
    have f44 : ((s[m].toNat : Int) == 44) = false := by simpa using hx44
    have f35 : ((s[m].toNat : Int) == 35) = false := by simpa using hx35
    have f34 : ((s[m].toNat : Int) == 34) = false := by simpa using hx34
    clear hx40 hx41 hx39 hx96 hx44 hx35 hx34
    have hco := rword_any s (by omega) m (by omega) l' c' (hno 102) (hno 116)
    rw [hTw] at hco
    unfold t0 at hco
    clear hTw hno
    clear hT'
    by_cases hTe : T.e = 0
    · have hrv : rv T l' c' m = .tuple #[.agg #[.int .i64 T.k, .int .i64 T.n, .string ⟨T.s.toArray⟩, .int .i64 l', .int .i64 c', .int .i64 (m + T.len : Nat)], .agg #[.int .i64 0, .int .i64 0, .int .i64 0]] := by unfold rv; rw [if_pos hTe]
      rw [hrv] at hco
      have hrv' := Lib.hid hrv
      have hco' := Lib.hid hco
      clear hrv hco hTe
      go_wp2_with (
        go_at_call 25
        refine (hco'.out _).mono ?_
        rintro e w1 ⟨rfl, hb1⟩
        have hM1 : Lies w1 w.heap.size 24 zero6 := (((Lies.made w 24 #[.int .i64 0, .int .i64 0, .string ⟨#[]⟩, .int .i64 0, .int .i64 0, .int .i64 0]).alloc _).alloc _).below hb1 (by simp; omega)
        have hF1 : Lies w1 (w.heap.size + 1) 30 [.int .i64 0, .int .i64 0, .int .i64 0] := ((lies_made2 w _ 30 #[.int .i64 0, .int .i64 0, .int .i64 0]).alloc _).below hb1 (by simp)
        have y0 : w1.cell? ⟨w.heap.size, 0, none⟩ = some (.int .i64 0) := hM1.cell 0
        have y1 : w1.cell? ⟨w.heap.size, 1, none⟩ = some (.int .i64 0) := hM1.cell 1
        have y2 : w1.cell? ⟨w.heap.size, 2, none⟩ = some (.string ⟨#[]⟩) := hM1.cell 2
        have y3 : w1.cell? ⟨w.heap.size, 3, none⟩ = some (.int .i64 0) := hM1.cell 3
        have y4 : w1.cell? ⟨w.heap.size, 4, none⟩ = some (.int .i64 0) := hM1.cell 4
        have y5 : w1.cell? ⟨w.heap.size, 5, none⟩ = some (.int .i64 0) := hM1.cell 5
        have z0 : w1.cell? ⟨w.heap.size + 1, 0, none⟩ = some (.int .i64 0) := hF1.cell 0
        have z1 : w1.cell? ⟨w.heap.size + 1, 1, none⟩ = some (.int .i64 0) := hF1.cell 1
        have z2 : w1.cell? ⟨w.heap.size + 1, 2, none⟩ = some (.int .i64 0) := hF1.cell 2
        have g1 := hM1.free
        have g2 := hF1.free
        clear hM1 hF1)
      exact bodyPost_ret (v := .tuple #[.agg #[.int .i64 T.k, .int .i64 T.n, .string ⟨T.s.toArray⟩, .int .i64 l', .int .i64 c', .int .i64 (m + T.len : Nat)], .agg #[.int .i64 0, .int .i64 0, .int .i64 0]]) (by simp [results, Tryd.results11, go_sem, y0, y1, y2, y3, y4, y5, z0, z1, z2]) rfl ⟨by rw [hrv'.out], nine_below ((below3 w _ _ _).trans (hb1.mono (by simp; omega))) (p := w.heap.size) (q := w.heap.size + 1) (by omega) (by omega) _ _ _ _ _ _ _ _ _⟩
    · have hrv : rv T l' c' m = .tuple #[.agg #[.int .i64 0, .int .i64 0, .string ⟨#[]⟩, .int .i64 0, .int .i64 0, .int .i64 0], .agg #[.int .i64 T.e, .int .i64 l', .int .i64 c']] := by unfold rv; rw [if_neg hTe]
      rw [hrv] at hco
      have hrv' := Lib.hid hrv
      have hco' := Lib.hid hco
      clear hrv hco hTe
      go_wp2_with (
        go_at_call 25
        refine (hco'.out _).mono ?_
        rintro e w1 ⟨rfl, hb1⟩
        have hM1 : Lies w1 w.heap.size 24 zero6 := (((Lies.made w 24 #[.int .i64 0, .int .i64 0, .string ⟨#[]⟩, .int .i64 0, .int .i64 0, .int .i64 0]).alloc _).alloc _).below hb1 (by simp; omega)
        have hF1 : Lies w1 (w.heap.size + 1) 30 [.int .i64 0, .int .i64 0, .int .i64 0] := ((lies_made2 w _ 30 #[.int .i64 0, .int .i64 0, .int .i64 0]).alloc _).below hb1 (by simp)
        have y0 : w1.cell? ⟨w.heap.size, 0, none⟩ = some (.int .i64 0) := hM1.cell 0
        have y1 : w1.cell? ⟨w.heap.size, 1, none⟩ = some (.int .i64 0) := hM1.cell 1
        have y2 : w1.cell? ⟨w.heap.size, 2, none⟩ = some (.string ⟨#[]⟩) := hM1.cell 2
        have y3 : w1.cell? ⟨w.heap.size, 3, none⟩ = some (.int .i64 0) := hM1.cell 3
        have y4 : w1.cell? ⟨w.heap.size, 4, none⟩ = some (.int .i64 0) := hM1.cell 4
        have y5 : w1.cell? ⟨w.heap.size, 5, none⟩ = some (.int .i64 0) := hM1.cell 5
        have z0 : w1.cell? ⟨w.heap.size + 1, 0, none⟩ = some (.int .i64 0) := hF1.cell 0
        have z1 : w1.cell? ⟨w.heap.size + 1, 1, none⟩ = some (.int .i64 0) := hF1.cell 1
        have z2 : w1.cell? ⟨w.heap.size + 1, 2, none⟩ = some (.int .i64 0) := hF1.cell 2
        have g1 := hM1.free
        have g2 := hF1.free
        clear hM1 hF1)
      exact bodyPost_ret (v := .tuple #[.agg #[.int .i64 0, .int .i64 0, .string ⟨#[]⟩, .int .i64 0, .int .i64 0, .int .i64 0], .agg #[.int .i64 T.e, .int .i64 l', .int .i64 c']]) (by simp [results, Tryd.results11, go_sem, y0, y1, y2, y3, y4, y5, z0, z1, z2]) rfl ⟨by rw [hrv'.out], nine_below ((below3 w _ _ _).trans (hb1.mono (by simp; omega))) (p := w.heap.size) (q := w.heap.size + 1) (by omega) (by omega) _ _ _ _ _ _ _ _ _⟩
  · have e0 : ((m : Int) == s.size) = true := by simp only [beq_iff_eq]; omega
    have hp : rv T l' c' m = .tuple #[.agg #[.int .i64 14, .int .i64 0, .string ⟨#[]⟩, .int .i64 l', .int .i64 c', .int .i64 (m : Nat)], .agg #[.int .i64 0, .int .i64 0, .int .i64 0]] := by
      rw [← hT'.out, drop_end (by omega), show LM.scn [] = LM.tok 14 0 [] 0 from rfl, rv_tok]; rfl
    have hp' := Lib.hid hp
    clear hp
    go_wp2
    exact bodyPost_ret (v := .tuple #[.agg #[.int .i64 14, .int .i64 0, .string ⟨#[]⟩, .int .i64 l', .int .i64 c', .int .i64 (m : Nat)], .agg #[.int .i64 0, .int .i64 0, .int .i64 0]]) (by simp [results, Tryd.results11, go_sem]) rfl ⟨by rw [hp'.out], hB _ _ _⟩
end Go.Proofs.YtmnadgkneaiccaaDoor
