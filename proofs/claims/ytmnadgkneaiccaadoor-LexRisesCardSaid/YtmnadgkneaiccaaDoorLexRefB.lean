/- What the document's own answer for layer 7 is on blanks, and on a word. -/
import Derived.Test.YtmnadgkneaiccaaDoorLexRef
namespace Go.Proofs.YtmnadgkneaiccaaDoor
open Go.ChangeShapes Go.WideShapes Go.ChangeAt Go.RowKit

theorem seg_step {s : ByteArray} {m e : Nat} (h : m < e) (hm : m < s.size) : seg s m (e - m) = s[m] :: seg s (m + 1) (e - (m + 1)) := by
  unfold seg
  rw [drop_cons hm, show e - m = (e - (m + 1)) + 1 by omega, List.take_succ_cons]
theorem mvs_nl {s : ByteArray} {m e : Nat} {l c : Int} {R : Int × Int} (h : m < e) (hm : m < s.size) (H : LM.mv (seg s m (e - m)) l c = R) (hx : (s[m].toNat : Int) = 10) : LM.mv (seg s (m + 1) (e - (m + 1))) (l + 1) 1 = R := by
  rw [seg_step h hm, LM.mv, if_pos hx] at H; exact H
theorem mvs_pl {s : ByteArray} {m e : Nat} {l c : Int} {R : Int × Int} (h : m < e) (hm : m < s.size) (H : LM.mv (seg s m (e - m)) l c = R) (hx : ¬ (s[m].toNat : Int) = 10) : LM.mv (seg s (m + 1) (e - (m + 1))) l (c + 1) = R := by
  rw [seg_step h hm, LM.mv, if_neg hx] at H; exact H
theorem mvs_stop {s : ByteArray} {m e : Nat} {l c : Int} {R : Int × Int} (h : e ≤ m) (H : LM.mv (seg s m (e - m)) l c = R) : R = (l, c) := by
  rw [show e - m = 0 by omega] at H
  exact H.symm
theorem skp_bd {s : ByteArray} {m e : Nat} {n : Bool} (hm : m ≤ s.size) (H : m + LM.skp n (s.data.toList.drop m) = e) : m ≤ e ∧ e ≤ s.size := by
  have := LM.skp_le n (s.data.toList.drop m)
  rw [List.length_drop, size_len] at this
  omega

set_option maxHeartbeats 1000000 in
theorem rskip_any (s : ByteArray) (hs : s.size ≤ 281474976710656) (a : Nat) (ha : a ≤ s.size) (line col : Int) (l0 : 0 ≤ line) (l1 : line ≤ 281474976710656) (c0 : 0 ≤ col) (c1 : col ≤ 281474976710656) (w : World) :
    Calls Tryd.prog 22 #[.string s, .int .i64 (a : Nat), .int .i64 line, .int .i64 col] w fun e w' => e = .returned (.tuple #[.int .i64 (a + LM.skp false (s.data.toList.drop a) : Nat), .int .i64 (LM.mv (seg s a (LM.skp false (s.data.toList.drop a))) line col).1, .int .i64 (LM.mv (seg s a (LM.skp false (s.data.toList.drop a))) line col).2]) ∧ w = w' := by
  obtain ⟨e, he⟩ : ∃ e, a + LM.skp false (s.data.toList.drop a) = e := ⟨_, rfl⟩
  have hbd := skp_bd ha he
  have hsk : LM.skp false (s.data.toList.drop a) = e - a := by omega
  rw [he, hsk]
  obtain ⟨R, hR⟩ : ∃ R, LM.mv (seg s a (e - a)) line col = R := ⟨_, rfl⟩
  rw [hR]
  obtain ⟨R1, R2⟩ := R
  have h0 := Lib.hid he
  have h1 := Lib.hid hR
  clear he hR hsk
  go_enter Tryd.func22, Tryd.ntmps22
  go_wp2
  go_loop [1, 2, 3, 11] (fun i li co n => ∃ (m : Nat) (l c : Int) (b : Bool), a ≤ m ∧ m ≤ s.size ∧ 0 ≤ l ∧ l ≤ line + m ∧ 0 ≤ c ∧ c ≤ col + m + 1 ∧ i = .int .i64 m ∧ li = .int .i64 l ∧ co = .int .i64 c ∧ n = .bool b ∧ Hid (m + LM.skp b (s.data.toList.drop m) = e) ∧ Hid (LM.mv (seg s m (e - m)) l c = (R1, R2))) (fun i _ _ _ => s.size - (intOf i).toNat)
  case atStart => exact ⟨a, line, col, false, by omega, by omega, by omega, by omega, by omega, by omega, rfl, rfl, rfl, rfl, h0, h1⟩
  case round =>
    obtain ⟨m, l, c, b, hm0, hm1, hl0, hl1, hc0, hc1, rfl, rfl, rfl, rfl, hd, hmv⟩ := hrel
    have hbe := skp_bd hm1 hd.out
    by_cases hlt : m < s.size
    · obtain ⟨x, hx⟩ : ∃ x : Int, (s[m].toNat : Int) = x := ⟨_, rfl⟩
      have hst := @skp_stop s m e b hlt hd.out
      have hgo := @skp_go s m e b hlt hd.out
      have hnl := fun h => @mvs_nl s m e l c (R1, R2) h hlt hmv.out
      have hpl := fun h => @mvs_pl s m e l c (R1, R2) h hlt hmv.out
      have hsp := fun h => @mvs_stop s m e l c (R1, R2) h hmv.out
      rw [hx] at hst hgo hnl hpl
      have hst' := Lib.hid hst
      have hgo' := Lib.hid hgo
      have hnl' := Lib.hid hnl
      have hpl' := Lib.hid hpl
      have hsp' := Lib.hid hsp
      clear hst hgo hnl hpl hsp
      by_cases h10 : x = 10
      · subst h10
        have hn := hgo'.out (by cases b <;> rfl)
        rw [show LM.nxn b 10 = false by cases b <;> rfl] at hn
        have hmn := Lib.hid (hnl'.out (by omega) rfl)
        have hn' := Lib.hid hn
        clear hn
        cases b
        all_goals
          go_wp2_with (go_at_call 33; refine (rblank_any _ _).mono ?_; rintro e w' ⟨rfl, rfl⟩; rw [show LM.blk 10 = true by rfl])
          go_round
          case rel => exact ⟨m + 1, l + 1, 1, false, by omega, by omega, by omega, by omega, by omega, by omega, by go_num, rfl, rfl, rfl, hn', hmn⟩
          case measure => simp [intOf]; omega
      · have f10 : (x == 10) = false := by simpa using h10
        by_cases h59 : x = 59
        · subst h59
          have hn := hgo'.out (by cases b <;> rfl)
          rw [show LM.nxn b 59 = true by cases b <;> rfl] at hn
          have hmn := Lib.hid (hpl'.out (by omega) (by omega))
          have hn' := Lib.hid hn
          clear hn
          cases b
          all_goals
            go_wp2
            go_round
            case rel => exact ⟨m + 1, l, c + 1, true, by omega, by omega, by omega, by omega, by omega, by omega, by go_num, rfl, rfl, rfl, hn', hmn⟩
            case measure => simp [intOf]; omega
        · have f59 : (x == 59) = false := by simpa using h59
          cases b
          · have e0 : LM.nxn false x = false := by simp [LM.nxn, h59]
            rw [e0] at hst' hgo'
            cases hb : LM.blk x
            · have hn := hst'.out (by rw [hb]; rfl)
              have hmn := hsp'.out (by omega)
              have hb' := Lib.hid hb
              clear hb e0 h10 h59 hst' hgo' hnl' hpl' hsp'
              subst hn
              cases hmn
              go_wp2_with (go_at_call 33; refine (rblank_any _ _).mono ?_; rintro e w' ⟨rfl, rfl⟩; rw [hb'.out])
              exact bodyPost_ret (v := .tuple #[.int .i64 (m : Nat), .int .i64 R1, .int .i64 R2]) (by simp [results, Tryd.results22, go_sem]) rfl ⟨rfl, rfl⟩
            · have hn := hgo'.out (by rw [hb]; rfl)
              have hmn := Lib.hid (hpl'.out (by omega) h10)
              have hb' := Lib.hid hb
              have hn' := Lib.hid hn
              clear hb e0 h10 h59 hn
              go_wp2_with (go_at_call 33; refine (rblank_any _ _).mono ?_; rintro e w' ⟨rfl, rfl⟩; rw [hb'.out])
              go_round
              case rel => exact ⟨m + 1, l, c + 1, false, by omega, by omega, by omega, by omega, by omega, by omega, by go_num, rfl, rfl, rfl, hn', hmn⟩
              case measure => simp [intOf]; omega
          · have e0 : LM.nxn true x = true := by simp [LM.nxn, h10]
            rw [e0] at hst' hgo'
            have hn := hgo'.out (by rfl)
            have hmn := Lib.hid (hpl'.out (by omega) h10)
            have hn' := Lib.hid hn
            clear e0 h10 h59 hn
            go_wp2
            go_round
            case rel => exact ⟨m + 1, l, c + 1, true, by omega, by omega, by omega, by omega, by omega, by omega, by go_num, rfl, rfl, rfl, hn', hmn⟩
            case measure => simp [intOf]; omega
    · have hn := skp_end (by omega) hd.out
      have hmn := mvs_stop (by omega) hmv.out
      subst hn
      cases hmn
      go_wp2
      exact bodyPost_ret (v := .tuple #[.int .i64 (m : Nat), .int .i64 R1, .int .i64 R2]) (by simp [results, Tryd.results22, go_sem]) rfl ⟨rfl, rfl⟩

/-- a token and no fault, or a fault -/
def rv (T : LM.Tk) (line col : Int) (a : Nat) : Value := if T.e = 0 then .tuple #[.agg #[.int .i64 T.k, .int .i64 T.n, .string ⟨T.s.toArray⟩, .int .i64 line, .int .i64 col, .int .i64 (a + T.len : Nat)], .agg #[.int .i64 0, .int .i64 0, .int .i64 0]]
  else .tuple #[.agg #[.int .i64 0, .int .i64 0, .string ⟨#[]⟩, .int .i64 0, .int .i64 0, .int .i64 0], .agg #[.int .i64 T.e, .int .i64 line, .int .i64 col]]
/-- the token that the document's parts are handed -/
def t0 (line col : Int) (a : Nat) : Value := .agg #[.int .i64 0, .int .i64 0, .string ⟨#[]⟩, .int .i64 line, .int .i64 col, .int .i64 ((a : Nat) + 1 : Int)]
end Go.Proofs.YtmnadgkneaiccaaDoor
