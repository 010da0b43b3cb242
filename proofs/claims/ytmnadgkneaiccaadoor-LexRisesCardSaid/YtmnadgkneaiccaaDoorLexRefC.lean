/- What the document's own answer for layer 7 is on a word. -/
import Derived.Test.YtmnadgkneaiccaaDoorLexRefB
namespace Go.Proofs.YtmnadgkneaiccaaDoor
open Go.ChangeShapes Go.WideShapes Go.ChangeAt Go.RowKit

theorem en_no {s : ByteArray} {k e : Nat} (h : LM.en (s.data.toList.drop k) = false) (H : k + LM.wln (s.data.toList.drop k) = e) : k < s.size ∧ k + 1 + LM.wln (s.data.toList.drop (k + 1)) = e := by
  by_cases hk : k < s.size
  · refine ⟨hk, wln_go hk H ?_⟩
    rw [drop_cons hk] at h; exact h
  · rw [drop_end (by omega)] at h; cases h
theorem en_yes {s : ByteArray} {k e : Nat} (h : LM.en (s.data.toList.drop k) = true) (H : k + LM.wln (s.data.toList.drop k) = e) : k = e := by
  rw [(LM.en_wln _).1 h] at H; exact H
theorem extract_seg (s : ByteArray) (a e : Nat) : (s.extract a e).data.toList = (s.data.toList.drop a).take (e - a) := by
  simp [List.extract]

theorem below3 (w : World) (o1 o2 o3 : Obj) : Below w.heap.size w (((w.alloc o1).alloc o2).alloc o3) := (((Below.refl _ w).alloc (Nat.le_refl _) o1).alloc (by simp) o2).alloc (by simp; omega) o3
theorem wrd_at {w : List UInt8} (h1 : w ≠ [46]) (h2 : w ≠ [35, 102]) (h3 : w ≠ [35, 116]) : LM.wrd w = if FM.okd (FM.body w) then (if (FM.parse w).2 = 0 then LM.tok 9 (FM.parse w).1 [] w.length else LM.bad 11) else if LM.sym w then LM.tok 13 0 w w.length else LM.bad 6 := by
  unfold LM.wrd; rw [if_neg h1, if_neg h2, if_neg h3]

set_option maxRecDepth 100000 in
set_option maxHeartbeats 4000000 in
theorem rword_any (s : ByteArray) (hs : s.size ≤ 281474976710000) (a : Nat) (ha : a ≤ s.size) (line col : Int) (h2 : (s.data.toList.drop a).take (LM.wln (s.data.toList.drop a)) ≠ [35, 102]) (h3 : (s.data.toList.drop a).take (LM.wln (s.data.toList.drop a)) ≠ [35, 116]) (w : World) :
    Calls Tryd.prog 25 #[.string s, .int .i64 (a : Nat), t0 line col a] w fun e w' => e = .returned (rv (LM.wrd ((s.data.toList.drop a).take (LM.wln (s.data.toList.drop a)))) line col a) ∧ Went w w' := by
  obtain ⟨e, he⟩ : ∃ e, a + LM.wln (s.data.toList.drop a) = e := ⟨_, rfl⟩
  have hwl := LM.wln_le (s.data.toList.drop a)
  rw [List.length_drop, size_len] at hwl
  have hq : LM.wln (s.data.toList.drop a) = e - a := by omega
  obtain ⟨W, hW⟩ : ∃ W, s.extract a e = W := ⟨_, rfl⟩
  have hWl : (s.data.toList.drop a).take (LM.wln (s.data.toList.drop a)) = W.data.toList := by rw [hq, ← hW, extract_seg]
  have hWz : W.size = e - a := by rw [← hW]; simp; omega
  rw [hWl] at h2 h3 ⊢
  have h0 := Lib.hid he
  have hpa := parse_any W (by omega)
  have hrp := rparse_any W (by omega)
  have hdg := rdigits_any W (by omega)
  have hsy := rSymbol_any W (by omega)
  clear hWl hpa hq
  unfold t0
  have hae : a ≤ e := by omega
  have hes : e ≤ s.size := by omega
  clear hwl
  have hwrd := fun h1 => wrd_at h1 h2 h3
  have hwrd' := Lib.hid hwrd
  have hWz' := Lib.hid hWz
  clear h2 h3 he hwrd hWz
  go_enter Tryd.func25, Tryd.ntmps25
  go_wp2
  go_loop [8] (fun i => ∃ k : Nat, a ≤ k ∧ k ≤ s.size ∧ i = .int .i64 k ∧ Hid (k + LM.wln (s.data.toList.drop k) = e)) (fun i => s.size - (intOf i).toNat)
  case atStart => exact ⟨a, by omega, ha, rfl, h0⟩
  case round =>
    obtain ⟨k, hk1, hk2, rfl, H⟩ := hrel
    cases hen : LM.en (s.data.toList.drop k)
    · obtain ⟨g1, g2⟩ := en_no hen H.out
      have g2' := Lib.hid g2
      have hen' := Lib.hid hen
      clear hen g2 hrp hdg hsy
      go_wp2_with (go_at_call 34; refine (rends_any _ _ _).mono ?_; rintro e w' ⟨rfl, rfl⟩; rw [hen'.out])
      go_round
      case rel => exact ⟨k + 1, by omega, by omega, by go_num, g2'⟩
      case measure => simp [intOf]; omega
    · have g1 := en_yes hen H.out
      have hen' := Lib.hid hen
      subst g1
      clear hen
      by_cases h46 : W.data.toList = [46]
      · have f1 : (W.toList == [46]) = true := by rw [ByteArray.toList_eq, h46]; rfl
        have hp : rv (LM.wrd W.data.toList) line col a = .tuple #[.agg #[.int .i64 8, .int .i64 0, .string ⟨#[]⟩, .int .i64 line, .int .i64 col, .int .i64 (k : Nat)], .agg #[.int .i64 0, .int .i64 0, .int .i64 0]] := by
          have hz : W.size = 1 := by rw [← size_len, h46]; rfl
          have := hWz'.out
          rw [h46, show LM.wrd [46] = LM.tok 8 0 [] 1 from rfl]
          show Value.tuple #[.agg #[.int .i64 8, .int .i64 0, .string ⟨#[]⟩, .int .i64 line, .int .i64 col, .int .i64 (a + 1 : Nat)], .agg #[.int .i64 0, .int .i64 0, .int .i64 0]] = _
          rw [show a + 1 = k by omega]
        have hp' := Lib.hid hp
        clear h46 hrp hdg hsy hp
        go_wp2_with (go_at_call 34; refine (rends_any _ _ _).mono ?_; rintro e w' ⟨rfl, rfl⟩; rw [hen'.out])
        exact bodyPost_ret (v := .tuple #[.agg #[.int .i64 8, .int .i64 0, .string ⟨#[]⟩, .int .i64 line, .int .i64 col, .int .i64 (k : Nat)], .agg #[.int .i64 0, .int .i64 0, .int .i64 0]]) (by simp [results, Tryd.results25, go_sem]) rfl ⟨by rw [hp'.out], below3 w _ _ _⟩
      · have f1 := lst_no h46
        have hw1 := hwrd'.out h46
        rw [size_len] at hw1
        have hkz : a + W.size = k := by have := hWz'.out; omega
        cases hok : FM.okd (FM.body W.data.toList)
        · rw [hok] at hdg
          rw [hok, if_neg (by simp)] at hw1
          cases hsm : LM.sym W.data.toList
          · rw [hsm] at hsy
            rw [hsm, if_neg (by simp)] at hw1
            have hp : rv (LM.wrd W.data.toList) line col a = .tuple #[.agg #[.int .i64 0, .int .i64 0, .string ⟨#[]⟩, .int .i64 0, .int .i64 0, .int .i64 0], .agg #[.int .i64 6, .int .i64 line, .int .i64 col]] := by rw [hw1]; rfl
            have hp' := Lib.hid hp
            have dg := Lib.hid hdg
            have sy := Lib.hid hsy
            clear hp h46 hw1 hok hsm hdg hsy hrp hwrd'
            go_wp2_with (first
              | (go_at_call 34; refine (rends_any _ _ _).mono ?_; rintro e w' ⟨rfl, rfl⟩; rw [hen'.out])
              | (go_at_call 35; refine (dg.out _).mono ?_; rintro e w' ⟨rfl, rfl⟩)
              | (go_at_call 37; refine (sy.out _).mono ?_; rintro e w' ⟨rfl, rfl⟩))
            go_region_held3 (fun w' => w'.cell? ⟨w.heap.size, 3, none⟩ = some (.int .i64 line) ∧ w'.cell? ⟨w.heap.size, 4, none⟩ = some (.int .i64 col)) (go_keep) (fail)
            all_goals
              go_wp2_with fail
              exact bodyPost_ret (v := .tuple #[.agg #[.int .i64 0, .int .i64 0, .string ⟨#[]⟩, .int .i64 0, .int .i64 0, .int .i64 0], .agg #[.int .i64 6, .int .i64 line, .int .i64 col]]) (by simp [results, Tryd.results25, go_sem]) rfl ⟨by rw [hp'.out], below_drewN (below3 w _ _ _) 1⟩
          · rw [hsm] at hsy
            rw [hsm, if_pos rfl] at hw1
            have hp : rv (LM.wrd W.data.toList) line col a = .tuple #[.agg #[.int .i64 13, .int .i64 0, .string W, .int .i64 line, .int .i64 col, .int .i64 (k : Nat)], .agg #[.int .i64 0, .int .i64 0, .int .i64 0]] := by
              rw [hw1]
              show Value.tuple #[.agg #[.int .i64 13, .int .i64 0, .string W, .int .i64 line, .int .i64 col, .int .i64 (a + W.size : Nat)], .agg #[.int .i64 0, .int .i64 0, .int .i64 0]] = _
              rw [hkz]
            have hp' := Lib.hid hp
            have dg := Lib.hid hdg
            have sy := Lib.hid hsy
            clear hp h46 hw1 hok hsm hdg hsy hrp hwrd' hkz
            go_wp2_with (first
              | (go_at_call 34; refine (rends_any _ _ _).mono ?_; rintro e w' ⟨rfl, rfl⟩; rw [hen'.out])
              | (go_at_call 35; refine (dg.out _).mono ?_; rintro e w' ⟨rfl, rfl⟩)
              | (go_at_call 37; refine (sy.out _).mono ?_; rintro e w' ⟨rfl, rfl⟩))
            exact bodyPost_ret (v := .tuple #[.agg #[.int .i64 13, .int .i64 0, .string W, .int .i64 line, .int .i64 col, .int .i64 (k : Nat)], .agg #[.int .i64 0, .int .i64 0, .int .i64 0]]) (by simp [results, Tryd.results25, go_sem]) rfl ⟨by rw [hp'.out], below3 w _ _ _⟩
        · rw [hok] at hdg
          rw [hok, if_pos rfl] at hw1
          rcases parse_kind W.data.toList with ⟨ho, _⟩ | ⟨_, ⟨n, hpe⟩ | hpe⟩
          · rw [hok] at ho; cases ho
          · rw [hpe, if_pos rfl] at hw1
            rw [hpe] at hrp
            have hp : rv (LM.wrd W.data.toList) line col a = .tuple #[.agg #[.int .i64 9, .int .i64 n, .string ⟨#[]⟩, .int .i64 line, .int .i64 col, .int .i64 (k : Nat)], .agg #[.int .i64 0, .int .i64 0, .int .i64 0]] := by
              rw [hw1]
              show Value.tuple #[.agg #[.int .i64 9, .int .i64 n, .string ⟨#[]⟩, .int .i64 line, .int .i64 col, .int .i64 (a + W.size : Nat)], .agg #[.int .i64 0, .int .i64 0, .int .i64 0]] = _
              rw [hkz]
            have hp' := Lib.hid hp
            have dg := Lib.hid hdg
            have rp := Lib.hid hrp
            clear hp h46 hw1 hok hdg hsy hrp hwrd' hkz hpe
            go_wp2_with (first
              | (go_at_call 34; refine (rends_any _ _ _).mono ?_; rintro e w' ⟨rfl, rfl⟩; rw [hen'.out])
              | (go_at_call 35; refine (dg.out _).mono ?_; rintro e w' ⟨rfl, rfl⟩)
              | (go_at_call 36; refine (rp.out _).mono ?_; rintro e w' ⟨rfl, rfl⟩; unfold two))
            exact bodyPost_ret (v := .tuple #[.agg #[.int .i64 9, .int .i64 n, .string ⟨#[]⟩, .int .i64 line, .int .i64 col, .int .i64 (k : Nat)], .agg #[.int .i64 0, .int .i64 0, .int .i64 0]]) (by simp [results, Tryd.results25, go_sem]) rfl ⟨by rw [hp'.out], below3 w _ _ _⟩
          · rw [hpe, if_neg (by simp)] at hw1
            rw [hpe] at hrp
            have hp : rv (LM.wrd W.data.toList) line col a = .tuple #[.agg #[.int .i64 0, .int .i64 0, .string ⟨#[]⟩, .int .i64 0, .int .i64 0, .int .i64 0], .agg #[.int .i64 11, .int .i64 line, .int .i64 col]] := by rw [hw1]; rfl
            have hp' := Lib.hid hp
            have dg := Lib.hid hdg
            have rp := Lib.hid hrp
            clear hp h46 hw1 hok hdg hsy hrp hwrd' hkz hpe
            go_wp2_with (first
              | (go_at_call 34; refine (rends_any _ _ _).mono ?_; rintro e w' ⟨rfl, rfl⟩; rw [hen'.out])
              | (go_at_call 35; refine (dg.out _).mono ?_; rintro e w' ⟨rfl, rfl⟩)
              | (go_at_call 36; refine (rp.out _).mono ?_; rintro e w' ⟨rfl, rfl⟩; unfold two))
            go_region_held3 (fun w' => w'.cell? ⟨w.heap.size, 3, none⟩ = some (.int .i64 line) ∧ w'.cell? ⟨w.heap.size, 4, none⟩ = some (.int .i64 col)) (go_keep) (fail)
            all_goals
              go_wp2_with fail
              exact bodyPost_ret (v := .tuple #[.agg #[.int .i64 0, .int .i64 0, .string ⟨#[]⟩, .int .i64 0, .int .i64 0, .int .i64 0], .agg #[.int .i64 11, .int .i64 line, .int .i64 col]]) (by simp [results, Tryd.results25, go_sem]) rfl ⟨by rw [hp'.out], below_drewN (below3 w _ _ _) 1⟩
end Go.Proofs.YtmnadgkneaiccaaDoor
