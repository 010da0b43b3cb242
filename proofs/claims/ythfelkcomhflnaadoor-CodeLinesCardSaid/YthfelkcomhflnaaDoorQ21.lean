/- What the document's own small answers for layer 7 are. -/
import Derived.Test.YthfelkcomhflnaaDoorQ19
import Derived.Test.YthfelkcomhflnaaDoorQ4
import Derived.Deep.RegionHeld3
import Derived.Deep.RegionWith
import Derived.Deep.CutRange
import Derived.Test.YthfelkcomhflnaaDoorQ20
namespace Go.Proofs.YthfelkcomhflnaaDoor
open Go.ChangeShapes Go.WideShapes Go.ChangeAt Go.RowKit

theorem okd_of {t : ByteArray} (hd : FM.digs t.data.toList = true) : FM.okd t.data.toList = decide (1 ≤ t.size ∧ t.size ≤ 30) := by
  unfold FM.okd; rw [hd, size_len, Bool.and_true]
theorem okd_not {t : ByteArray} (hd : FM.digs t.data.toList = false) : FM.okd t.data.toList = false := by
  unfold FM.okd; rw [hd, Bool.and_false]
theorem rdigits_any (s : ByteArray) (hs : s.size ≤ 281474976710656) (w : World) :
    Calls Tryd.prog 52 #[.string s] w fun e w' => e = .returned (.bool (FM.okd (FM.body s.data.toList))) ∧ w = w' := by
  obtain ⟨hb, hbs⟩ := body_data s
  rw [← hb]
  clear hb
  have key : ∀ (t : ByteArray), t.size ≤ s.size → ((s.size < 1 ∧ s = t) ∨ (1 ≤ s.size ∧ ∃ x : Int, (∀ h : 0 < s.size, (s[0].toNat : Int) = x) ∧ ((x = 45 ∧ s.extract 1 s.size = t) ∨ (x = 43 ∧ s.extract 1 s.size = t) ∨ ((x == 45) = false ∧ (x == 43) = false ∧ s = t)))) →
      Calls Tryd.prog 52 #[.string s] w fun e w' => e = .returned (.bool (FM.okd t.data.toList)) ∧ w = w' := by
    intro t htz hcase
    rcases hcase with ⟨h1, rfl⟩ | ⟨h1, x, hx, ⟨rfl, he⟩ | ⟨rfl, he⟩ | ⟨b1, b2, rfl⟩⟩
    · have h0 : s.size = 0 := by omega
      have e : FM.okd s.data.toList = false := by
        have := size_len s
        unfold FM.okd; rw [decide_eq_false (by omega), Bool.false_and]
      rw [e]
      clear htz hbs h1 e
      go_enter Tryd.func52, Tryd.ntmps52
      go_wp2
      go_loop [3] (fun i => i = .int .i64 0) (fun i => 0)
      case atStart => rfl
      case round =>
        obtain rfl := hrel
        go_wp2
        go_ret
        exact ⟨rfl, rfl⟩
    · have hx0 := hx (by omega)
      clear hx
      go_enter Tryd.func52, Tryd.ntmps52
      go_wp2
      go_loop [3] (fun i => ∃ k : Nat, k ≤ t.size ∧ i = .int .i64 k ∧ Hid (FM.digs (t.data.toList.take k) = true)) (fun i => t.size - (intOf i).toNat)
      case atStart => exact ⟨0, Nat.zero_le _, rfl, by simp [FM.digs, Hid]⟩
      case round =>
        obtain ⟨k, hk, rfl, hd⟩ := hrel
        by_cases hlt : k < t.size
        · by_cases g1 : 48 ≤ (t[k].toNat : Int)
          · by_cases g3 : (t[k].toNat : Int) ≤ 57
            · have hn := Lib.hid (digs_yes_step hlt hd.out g1 g3)
              go_wp2
              go_round
              case rel => exact ⟨k + 1, by omega, by go_num, hn⟩
              case measure => simp [intOf]; omega
            · have hn := Lib.hid (okd_not (digs_no_step hlt (by omega)))
              go_wp2
              go_ret
              exact ⟨ret_b hn.out.symm, rfl⟩
          · have hn := Lib.hid (okd_not (digs_no_step hlt (by omega)))
            go_wp2
            go_ret
            exact ⟨ret_b hn.out.symm, rfl⟩
        · have hn := Lib.hid (okd_of (digs_all (by omega) hd.out))
          by_cases g1 : 1 ≤ t.size
          · go_wp2
            go_ret
            exact ⟨ret_b (by rw [hn.out, decide_eq_decide]; omega), rfl⟩
          · go_wp2
            go_ret
            exact ⟨ret_b (by rw [hn.out]; exact (decide_eq_false (by omega)).symm), rfl⟩
    · have hx0 := hx (by omega)
      clear hx
      go_enter Tryd.func52, Tryd.ntmps52
      go_wp2
      go_loop [3] (fun i => ∃ k : Nat, k ≤ t.size ∧ i = .int .i64 k ∧ Hid (FM.digs (t.data.toList.take k) = true)) (fun i => t.size - (intOf i).toNat)
      case atStart => exact ⟨0, Nat.zero_le _, rfl, by simp [FM.digs, Hid]⟩
      case round =>
        obtain ⟨k, hk, rfl, hd⟩ := hrel
        by_cases hlt : k < t.size
        · by_cases g1 : 48 ≤ (t[k].toNat : Int)
          · by_cases g3 : (t[k].toNat : Int) ≤ 57
            · have hn := Lib.hid (digs_yes_step hlt hd.out g1 g3)
              go_wp2
              go_round
              case rel => exact ⟨k + 1, by omega, by go_num, hn⟩
              case measure => simp [intOf]; omega
            · have hn := Lib.hid (okd_not (digs_no_step hlt (by omega)))
              go_wp2
              go_ret
              exact ⟨ret_b hn.out.symm, rfl⟩
          · have hn := Lib.hid (okd_not (digs_no_step hlt (by omega)))
            go_wp2
            go_ret
            exact ⟨ret_b hn.out.symm, rfl⟩
        · have hn := Lib.hid (okd_of (digs_all (by omega) hd.out))
          by_cases g1 : 1 ≤ t.size
          · go_wp2
            go_ret
            exact ⟨ret_b (by rw [hn.out, decide_eq_decide]; omega), rfl⟩
          · go_wp2
            go_ret
            exact ⟨ret_b (by rw [hn.out]; exact (decide_eq_false (by omega)).symm), rfl⟩
    · have hx0 := hx (by omega)
      rw [← hx0] at b1 b2
      clear hx hx0
      go_enter Tryd.func52, Tryd.ntmps52
      go_wp2
      go_loop [3] (fun i => ∃ k : Nat, k ≤ s.size ∧ i = .int .i64 k ∧ Hid (FM.digs (s.data.toList.take k) = true)) (fun i => s.size - (intOf i).toNat)
      case atStart => exact ⟨0, Nat.zero_le _, rfl, by simp [FM.digs, Hid]⟩
      case round =>
        obtain ⟨k, hk, rfl, hd⟩ := hrel
        by_cases hlt : k < s.size
        · by_cases g1 : 48 ≤ (s[k].toNat : Int)
          · by_cases g3 : (s[k].toNat : Int) ≤ 57
            · have hn := Lib.hid (digs_yes_step hlt hd.out g1 g3)
              go_wp2
              go_round
              case rel => exact ⟨k + 1, by omega, by go_num, hn⟩
              case measure => simp [intOf]; omega
            · have hn := Lib.hid (okd_not (digs_no_step hlt (by omega)))
              go_wp2
              go_ret
              exact ⟨ret_b hn.out.symm, rfl⟩
          · have hn := Lib.hid (okd_not (digs_no_step hlt (by omega)))
            go_wp2
            go_ret
            exact ⟨ret_b hn.out.symm, rfl⟩
        · have hn := Lib.hid (okd_of (digs_all (by omega) hd.out))
          go_wp2
          go_ret
          exact ⟨ret_b (by rw [hn.out, decide_eq_decide]; omega), rfl⟩
  refine key (bodyS s) hbs ?_
  by_cases h1 : 1 ≤ s.size
  · refine .inr ⟨h1, (s[0].toNat : Int), fun h => rfl, ?_⟩
    have hc := cons_of (s := s) (by omega)
    by_cases h5 : s[0] = 45
    · refine .inl ⟨by rw [h5]; rfl, ?_⟩
      unfold bodyS; rw [if_neg]; rw [hc, h5]; simp only [FM.body, true_or, if_true]
      intro e; have := congrArg List.length e; simp at this
    · by_cases h6 : s[0] = 43
      · refine .inr (.inl ⟨by rw [h6]; rfl, ?_⟩)
        unfold bodyS; rw [if_neg]; rw [hc, h6]; simp only [FM.body, or_true, if_true]
        intro e; have := congrArg List.length e; simp at this
      · refine .inr (.inr ⟨?_, ?_, ?_⟩)
        · simp only [beq_eq_false_iff_ne, ne_eq]; intro e; apply h5; apply UInt8.toNat_inj.1; show s[0].toNat = 45; omega
        · simp only [beq_eq_false_iff_ne, ne_eq]; intro e; apply h6; apply UInt8.toNat_inj.1; show s[0].toNat = 43; omega
        · unfold bodyS; rw [if_pos]; rw [hc]; simp [FM.body, h5, h6]
  · obtain ⟨e1, e3, e4⟩ := empty_yes (s := s) (by omega)
    refine .inl ⟨by omega, ?_⟩
    unfold bodyS; rw [e4]; rfl

/-- no byte of a name -/
theorem nmb_no {x : Int} (h : LM.nmb x = false) : x < 33 ∨ 126 < x ∨ x = 40 ∨ x = 41 ∨ x = 34 ∨ x = 59 ∨ x = 39 ∨ x = 44 ∨ x = 96 ∨ x = 35 := by
  unfold LM.nmb at h; simp at h; omega
theorem nmb_yes {x : Int} (h : LM.nmb x = true) : 33 ≤ x ∧ x ≤ 126 ∧ (x == 40) = false ∧ (x == 41) = false ∧ (x == 34) = false ∧ (x == 59) = false ∧ (x == 39) = false ∧ (x == 44) = false ∧ (x == 96) = false ∧ (x == 35) = false := by
  unfold LM.nmb at h; simp at h ⊢; omega
set_option maxHeartbeats 1000000 in
theorem rSymbol_any (s : ByteArray) (hs : s.size ≤ 281474976710656) (w : World) :
    Calls Tryd.prog 44 #[.string s] w fun e w' => e = .returned (.bool (LM.sym s.data.toList)) ∧ w = w' := by
  by_cases h1 : 1 ≤ s.size
  · by_cases h2 : 60 < s.size
    · rw [sym_short (.inr (.inl h2))]
      go_enter Tryd.func44, Tryd.ntmps44
      go_wp2
      go_ret
      exact ⟨rfl, rfl⟩
    · by_cases h3 : s.data.toList = [46]
      · rw [sym_short (.inr (.inr h3))]
        obtain rfl := lst_yes h3
        clear h1 h2 h3 hs
        go_enter Tryd.func44, Tryd.ntmps44
        go_wp2
        go_ret
        exact ⟨rfl, rfl⟩
      · rw [sym_of h1 (by omega) h3]
        have f3 := lst_no (s := s) (l := [46]) h3
        clear h3
        have hp := rdigits_any s hs
        cases ho : FM.okd (FM.body s.data.toList)
        · rw [ho] at hp
          have hp' := Lib.hid hp
          have ho' := Lib.hid ho
          clear hp ho
          obtain ⟨Y, hY⟩ : ∃ Y, s.data.toList.all (fun c => LM.nmb c.toNat) = Y := ⟨_, rfl⟩
          rw [hY]
          have hY' := Lib.hid hY
          clear hY
          go_enter Tryd.func44, Tryd.ntmps44
          go_wp2_with (go_at_call 52; refine (hp'.out _).mono ?_; rintro e w' ⟨rfl, rfl⟩)
          go_loop [3] (fun i => ∃ k : Nat, k ≤ s.size ∧ i = .int .i64 k ∧ Hid ((s.data.toList.take k).all (fun c => LM.nmb c.toNat) = true)) (fun i => s.size - (intOf i).toNat)
          case atStart => exact ⟨0, Nat.zero_le _, rfl, by simp [Hid]⟩
          case round =>
            obtain ⟨k, hk, rfl, hd⟩ := hrel
            by_cases hlt : k < s.size
            · cases hq : LM.nmb (s[k].toNat : Int)
              · have hn := Lib.hid (hY'.out.symm.trans (all_stop hlt hq))
                have hx := nmb_no hq
                clear hq
                obtain ⟨x, hxx⟩ : ∃ x : Int, (s[k].toNat : Int) = x := ⟨_, rfl⟩
                rw [hxx] at hx
                rcases hx with hx | hx | rfl | rfl | rfl | rfl | rfl | rfl | rfl | rfl
                all_goals
                  go_wp2
                  go_ret
                  exact ⟨ret_b (by simp [hn.out]), rfl⟩
              · have hn := Lib.hid (all_go hlt hd.out hq)
                obtain ⟨x1, x2, x3, x4, x5, x6, x7, x8, x9, x10⟩ := nmb_yes hq
                clear hq
                go_wp2
                go_round
                case rel => exact ⟨k + 1, by omega, by go_num, hn⟩
                case measure => simp [intOf]; omega
            · have hn := Lib.hid (hY'.out.symm.trans (all_end (by omega) hd.out))
              go_wp2
              go_ret
              exact ⟨ret_b (by simp [hn.out]), rfl⟩
        · rw [ho] at hp
          have hp' := Lib.hid hp
          clear hp ho
          go_enter Tryd.func44, Tryd.ntmps44
          go_wp2_with (go_at_call 52; refine (hp'.out _).mono ?_; rintro e w' ⟨rfl, rfl⟩)
          go_ret
          exact ⟨ret_b (by simp), rfl⟩
  · rw [sym_short (.inl (by omega))]
    have h0 : s.size = 0 := by omega
    go_enter Tryd.func44, Tryd.ntmps44
    go_wp2
    go_ret
    exact ⟨rfl, rfl⟩

end Go.Proofs.YthfelkcomhflnaaDoor
