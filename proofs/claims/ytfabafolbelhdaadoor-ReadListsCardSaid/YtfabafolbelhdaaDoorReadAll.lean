/- What All of package read gives: all data of a text. -/
import Derived.Test.YtfabafolbelhdaaDoorReadBegun
namespace Go.Proofs.YtfabafolbelhdaaDoor
open Go.ChangeShapes Go.WideShapes Go.ChangeAt Go.RowKit

def APost (w : World) : Except (Int × Int × Int) RM.Dl → Ending → World → Prop
  | .error x, e, w' => e = .returned (.tuple #[.slice none 0 0, ekv x]) ∧ Went w w'
  | .ok D, e, w' => ∃ v, e = .returned (.tuple #[v, .nilIface]) ∧ Dat w' (fun g => w.heap.size ≤ g) v D ∧ Went w w'
def allStep (f : Nat) (data : RM.Dl) (X : LM.Nx) (st : RM.St) : Except (Int × Int × Int) RM.Dl :=
  if X.t.e ≠ 0 then .error (X.t.e, X.line, X.col)
  else if X.t.k = 14 then .ok data
  else match RM.beg 64 X st with
    | .error e => .error e
    | .ok (d, s2) => RM.all f (data.snoc d) s2
theorem all_stt (f : Nat) (data : RM.Dl) (s : ByteArray) (a : Nat) (i j : Int) (m : Nat) :
    RM.all (f + 1) data (stt s a i j m) = allStep f data (LM.nx (s.data.toList.drop a) i j) (stt s (a + (LM.nx (s.data.toList.drop a) i j).len) (LM.mv (seg s a (LM.nx (s.data.toList.drop a) i j).len) i j).1 (LM.mv (seg s a (LM.nx (s.data.toList.drop a) i j).len) i j).2 1) := by
  conv => lhs; unfold RM.all
  simp only
  rw [show (⟨(stt s a i j m).l, (stt s a i j m).i, (stt s a i j m).j, 0⟩ : RM.St) = stt s a i j 0 from rfl, stt_nx, stt_after]
  rfl

theorem rAll_long (s : ByteArray) (hs : 16384 < s.size) (w : World) :
    Calls Tryd.prog 8 #[.string s] w fun e w' => e = .returned (.tuple #[.slice none 0 0, .iface 48 (.int .i64 14)]) ∧ Went w w' := by
  go_enter Tryd.func8, Tryd.ntmps8
  go_wp2
  go_ret2
  exact ⟨rfl, Below.refl _ _⟩

set_option maxRecDepth 100000 in
set_option maxHeartbeats 16000000 in
theorem rAll_any (s : ByteArray) (hs : s.size ≤ 16384) (w : World) :
    Calls Tryd.prog 8 #[.string s] w (APost w (RM.all (s.size + 1) .nil (RM.start s.data.toList))) := by
  obtain ⟨R, hRR⟩ : ∃ R, RM.all (s.size + 1) .nil (RM.start s.data.toList) = R := ⟨_, rfl⟩
  rw [hRR]
  have H0 : Hid (RM.all (s.size + 1) .nil (stt s 0 1 1 0) = R) := by
    show RM.all (s.size + 1) .nil (stt s 0 1 1 0) = R
    rw [← hRR]; rfl
  clear hRR
  have hB := begun_all 64 (by omega)
  unfold BegC at hB
  rw [show (65 : Int) - ((64 : Nat) : Int) = 1 by decide] at hB
  have hB' := Lib.hid hB
  clear hB
  have hR0 := Lies.made w 50 #[.string s, .int .i64 0, .int .i64 1, .int .i64 1, .int .i64 0]
  go_enter Tryd.func8, Tryd.ntmps8
  go_wp2_with fail
  go_loopw [4] (fun v4 wr => ∃ (f a : Nat) (i j : Int) (m : Nat) (data : RM.Dl), data.len ≤ a ∧ Pl s a i j m ∧ s.size < f + a ∧ Rd wr w.heap.size s a i j m ∧ Its wr (fun g => w.heap.size < g) v4 data ∧ Turns (fun k => k = w.heap.size) w wr ∧ Hid (RM.all f data (stt s a i j m) = R)) (fun _ wr => match wr.cell? ⟨w.heap.size, 1, none⟩ with | some (.int .i64 k) => s.size - k.toNat | _ => 0)
  case atStart => exact ⟨s.size + 1, 0, 1, 1, 0, .nil, Nat.zero_le _, ⟨by omega, by omega, by omega, by omega, by omega, by omega, by omega⟩, by omega, hR0, Its.nil _ _, (Turns.refl _ w).alloc _, H0⟩
  case round =>
    obtain ⟨f, a, i, j, m, data, hout, hpa, hfa, hRa, hI, ht, H⟩ := hrel
    clear H0 hR0
    have haa : a ≤ s.size := hpa.2.1
    obtain ⟨f, rfl⟩ : ∃ f', f = f' + 1 := ⟨f - 1, by omega⟩
    obtain ⟨A8, c8, rfl⟩ := hI.read
    have hIl := Lib.hid hI.lt
    have hzr := hRa.lt
    have x4 : wr.cell? ⟨w.heap.size, 4, none⟩ = some (.int .i64 (m : Nat)) := Lies.cell hRa 4
    have fr := Lies.free hRa
    have hp0 : Pl s a i j 0 := ⟨hpa.1, hpa.2.1, hpa.2.2.1, hpa.2.2.2.1, hpa.2.2.2.2.1, hpa.2.2.2.2.2.1, Nat.zero_le _⟩
    have hR1 : Rd (wr.setCell ⟨w.heap.size, 4, none⟩ (.int .i64 0)) w.heap.size s a i j 0 := Lies.stored hRa 4 (.int .i64 0)
    have hI1 : Its (wr.setCell ⟨w.heap.size, 4, none⟩ (.int .i64 0)) (fun g => w.heap.size < g) (.slice A8 data.len c8) data := hI.turns ((Turns.refl (fun k => k = w.heap.size) wr).setCell (p := ⟨w.heap.size, 4, none⟩) (fun _ => rfl) _) (fun g _ hs hh => by omega)
    have ht1 : Turns (fun k => k = w.heap.size) w (wr.setCell ⟨w.heap.size, 4, none⟩ (.int .i64 0)) := ht.setCell (p := ⟨w.heap.size, 4, none⟩) (fun _ => rfl) _
    have hG := H.out
    rw [all_stt] at hG
    unfold allStep at hG
    clear H
    by_cases he : (LM.nx (s.data.toList.drop a) i j).t.e = 0
    · have hN := Lib.hid (rnext_ok _ w.heap.size s a i j 0 hR1 hp0 he)
      have hP := Lib.hid (hp0.after he)
      have hlt : (LM.nx (s.data.toList.drop a) i j).t.k ≠ 14 → a + 1 ≤ a + (LM.nx (s.data.toList.drop a) i j).len := by
        intro hk
        rcases LM.nx_end (s.data.toList.drop a) i j he with h | h
        · exact absurd h.1 hk
        · omega
      have hlt' := Lib.hid hlt
      rw [if_neg (by simp [he])] at hG
      clear hlt
      generalize LM.nx (s.data.toList.drop a) i j = X at *
      generalize (LM.mv (seg s a X.len) i j).1 = i' at *
      generalize (LM.mv (seg s a X.len) i j).2 = j' at *
      generalize a + X.len = a' at *
      clear he hp0
      by_cases h14 : X.t.k = 14
      · rw [if_pos h14] at hG
        have hG' := Lib.hid hG
        have e14 : (X.t.k == 14) = true := by simp [h14]
        clear hG h14
        go_wp2_with (first
          | (go_at_call 16
             refine hN.out.mono ?_
             rintro e w1 ⟨rfl, hR2, ht2⟩
             unfold tka6
             have hz1 := hR2.lt
             have ht3 : Turns (fun k => k = w.heap.size) w w1 := ht1.trans ht2
             have hI2 := hI1.turns ht2 (fun g _ hs hh => by omega)))
        go_ret2
        rw [← hG'.out]
        exact ⟨_, rfl, (hI2.dat.turns ((Turns.refl (fun _ => False) w1).alloc _) (fun _ _ _ h => h)).mono (fun g _ hs => by omega), (ht3.alloc _).below (Nat.le_refl _) (fun i hi => by omega)⟩
      · rw [if_neg h14] at hG
        have e14 : (X.t.k == 14) = false := by simp [h14]
        have hlt2 := hlt'.out h14
        have hpl : a' ≤ s.size := (hP.out h14).2.1
        have hC := Lib.hid (fun w' (h : Rd w' w.heap.size s a' i' j' 1) => hB'.out w' w.heap.size s a' i' j' 1 X a' h hP.out)
        clear h14
        cases hbeg : RM.beg 64 X (stt s a' i' j' 1) with
        | error x =>
          rw [hbeg] at hG hC
          have hG' := Lib.hid hG
          clear hG hbeg
          unfold RPost at hC
          go_wp2_with (first
            | (go_at_call 16
               refine hN.out.mono ?_
               rintro e w1 ⟨rfl, hR2, ht2⟩
               unfold tka6
               have hz1 := hR2.lt
               have ht3 : Turns (fun k => k = w.heap.size) w w1 := ht1.trans ht2
               have hI2 := hI1.turns ht2 (fun g _ hs hh => by omega))
            | (go_at_call 17
               refine (hC.out _ (Lies.alloc hR2 _)).mono ?_
               rintro e w3 ⟨rfl, ht4⟩
               have ht5 : Turns (fun k => k = w.heap.size) w w3 := (ht3.alloc _).trans ht4
               unfold dt0 ekv))
          go_ret2
          rw [← hG'.out]
          exact ⟨rfl, (ht5.alloc _).below (Nat.le_refl _) (fun i hi => by omega)⟩
        | ok p =>
          obtain ⟨d, t⟩ := p
          have hble := RM.beg_le 64 _ _ _ _ hbeg
          rw [hbeg] at hG hC
          have hG' := Lib.hid hG
          have hblh := Lib.hid hble
          clear hG hbeg hble
          unfold RPost at hC
          go_wp2_with (first
            | (go_at_call 16
               refine hN.out.mono ?_
               rintro e w1 ⟨rfl, hR2, ht2⟩
               unfold tka6
               have hz1 := hR2.lt
               have ht3 : Turns (fun k => k = w.heap.size) w w1 := ht1.trans ht2
               have hI2 := hI1.turns ht2 (fun g _ hs hh => by omega))
            | (go_at_call 17
               refine (hC.out _ (Lies.alloc hR2 _)).mono ?_
               rintro e w3 ⟨vd, a3, i3, j3, m3, rfl, hst, hp3, hR3, hd3, ht4⟩
               obtain ⟨A3, c3, rfl⟩ := hd3.read
               have hG3 := hG'.out
               rw [hst] at hG3
               have hG3' := Lib.hid hG3
               have hlen3 : a' ≤ a3 := by
                 have h := hblh.out
                 rw [hst] at h
                 have h3 := hp3.2.1
                 have h4 : (s.data.toList.drop a3).length ≤ (s.data.toList.drop a').length := h
                 rw [List.length_drop, List.length_drop, size_len] at h4
                 omega
               have hz3 := hR3.lt
               have ht5 : Turns (fun k => k = w.heap.size) w w3 := (ht3.alloc _).trans ht4
               have hIl2 := Lib.hid hI2.lt
               have hI3 := (hI2.turns ((Turns.refl (fun _ => False) w1).alloc (.cells #[.int .i64 X.t.k, .int .i64 X.t.n, .string ⟨X.t.s.toArray⟩, .int .i64 X.line, .int .i64 X.col, .int .i64 (a' : Nat)] 44)) (fun _ _ _ h => h)).turns ht4 (fun g _ hs hh => by omega)
               have hone : DatAt w3 (fun g => w.heap.size < g ∧ (Value.slice A8 data.len c8).ownBlock ≠ some g) (.one d) [.int .i64 d.k, .int .i64 d.n, .string ⟨d.s.toArray⟩, .slice A3 d.is.len c3] :=
                 DatAt.cell1 (hd3.mono (fun g _ hs => by simp at hs; exact ⟨by omega, fun hh => by have := (hIl2.out _ hh).2; omega⟩))
               clear hst hG3)
            | (at_builtin
               have hIl3 := hI3.lt
               obtain ⟨cs, h1, -, h3⟩ := hI3
               refine wpList_append_row (v := .slice A8 data.len c8) (x := .slice (some ⟨w3.heap.size + 1, 0, none⟩) 1 1) (.agg #[.int .i64 0, .int .i64 0, .string ⟨#[]⟩, .slice none 0 0]) 56 Tryd.infoDatum rfl (by decide) rfl _ _ 23 rfl Tryd.underlying23 rfl rfl (own_turns h1 (((Turns.refl (fun _ => False) _).alloc _).alloc _) (fun _ _ h => h)) (own_lit4b w3 _ 29 #[.int .i64 d.k, .int .i64 d.n, .string ⟨d.s.toArray⟩, .slice A3 d.is.len c3]) (DatAt.one hone) (by omega) (by omega) (by simp) ?_
               intro v9 w9 hown9 hg9 hat9
               have T1 := Turns.appendedS hg9
               have hI9 : Its w9 (fun g => w.heap.size < g) v9 (data.snoc d) := Its.grew (e := .one d) hIl3 h3 hone (((Turns.refl (fun _ => False) _).alloc _).alloc _) hown9 hg9 hat9 (fun g _ hs => hs) (by simp; omega)
               have hR9 := (Lies.alloc (Lies.alloc hR3 _) _).turns T1 (fun hh => by have := (hIl3 _ hh).1; omega)
               have ht9 : Turns (fun k => k = w.heap.size) w w9 := ((ht5.alloc _).alloc _).then T1 (fun k hk hh => by have := (hIl3 _ hh).1; omega)
               clear hg9 hat9 hown9 T1))
          go_roundw
          case rel => exact ⟨f, a3, i3, j3, m3, data.snoc d, by rw [RM.Dl.len_snoc]; omega, hp3, by omega, hR9, hI9, ht9, hG3'⟩
          case measure =>
            have q1 : w9.cell? ⟨w.heap.size, 1, none⟩ = some (.int .i64 (a3 : Nat)) := Lies.cell hR9 1
            have q2 : wr.cell? ⟨w.heap.size, 1, none⟩ = some (.int .i64 (a : Nat)) := Lies.cell hRa 1
            have := hp3.2.1
            rw [q1, q2]
            simp; omega
    · rw [if_pos he] at hG
      have hN := Lib.hid (rnext_bad _ w.heap.size s a i j 0 hR1 hp0 he)
      have hG' := Lib.hid hG
      clear hG hp0 he
      generalize LM.nx (s.data.toList.drop a) i j = X at *
      go_wp2_with (first
        | (go_at_call 16
           refine hN.out.mono ?_
           rintro e w1 ⟨rfl, hb1⟩
           unfold tk0 erv
           have ht3 : Turns (fun k => k = w.heap.size) w w1 := ht1.trans (Turns.of_below hb1 _)))
      go_ret2
      rw [← hG'.out]
      exact ⟨rfl, (ht3.alloc _).below (Nat.le_refl _) (fun i hi => by omega)⟩
end Go.Proofs.YtfabafolbelhdaaDoor
