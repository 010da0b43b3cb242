/- What All of package read gives: all data of a text. -/
import Derived.Test.YtbomodendobnkaaGreatQ43
import Derived.Test.YtbomodendobnkaaGreatQ36
import Derived.Test.YtbomodendobnkaaGreatQ7
import Derived.Test.YtbomodendobnkaaGreatQ8
namespace Go.Proofs.YtbomodendobnkaaGreat
open Go.ChangeShapes Go.WideShapes Go.ChangeAt Go.RowKit

def APost (w : World) : Except (Int × Int × Int) RM.Dl → Ending → World → Prop
  | .error x, e, w' => e = .returned (.tuple #[.slice none 0 0, ekv x]) ∧ Went w w'
  | .ok D, e, w' => ∃ v, e = .returned (.tuple #[v, .nilIface]) ∧ Dat w' (fun g => w.heap.size ≤ g) v D ∧ Went w w'
def allStep (f : Nat) (data : RM.Dl) (X : LM.Nx) (st : RM.St) : Except (Int × Int × Int) RM.Dl :=
  if X.t.e ≠ 0 then .error (X.t.e, X.line, X.col)
  else if X.t.k = 14 then .ok data
  else match RM.beg 64 X st with
    | .error e => .error e
    | .ok (d, s2) => RM.all f (data.snoc d) s2
theorem all_stt (f : Nat) (data : RM.Dl) (s : ByteArray) (a : Nat) (i j : Int) (m : Nat) :
    RM.all (f + 1) data (stt s a i j m) = allStep f data (LM.nx (s.data.toList.drop a) i j) (stt s (a + (LM.nx (s.data.toList.drop a) i j).len) (LM.mv (seg s a (LM.nx (s.data.toList.drop a) i j).len) i j).1 (LM.mv (seg s a (LM.nx (s.data.toList.drop a) i j).len) i j).2 1) := by
  conv => lhs; unfold RM.all
  simp only
  rw [show (⟨(stt s a i j m).l, (stt s a i j m).i, (stt s a i j m).j, 0⟩ : RM.St) = stt s a i j 0 from rfl, stt_nx, stt_after]
  rfl

theorem rAll_long (s : ByteArray) (hs : 16384 < s.size) (w : World) :
    Calls Tryz.prog 24 #[.string s] w fun e w' => e = .returned (.tuple #[.slice none 0 0, .iface 47 (.int .i64 14)]) ∧ Went w w' := by
  go_enter Tryz.func24, Tryz.ntmps24
  go_wp2
  go_ret2
  exact ⟨rfl, Below.refl _ _⟩

set_option maxRecDepth 100000 in
set_option maxHeartbeats 16000000 in
theorem rAll_any (s : ByteArray) (hs : s.size ≤ 16384) (w : World) :
    Calls Tryz.prog 24 #[.string s] w (APost w (RM.all (s.size + 1) .nil (RM.start s.data.toList))) := by
  obtain ⟨R, hRR⟩ : ∃ R, RM.all (s.size + 1) .nil (RM.start s.data.toList) = R := ⟨_, rfl⟩
  rw [hRR]
  have H0 : Hid (RM.all (s.size + 1) .nil (stt s 0 1 1 0) = R) := by
    show RM.all (s.size + 1) .nil (stt s 0 1 1 0) = R
    rw [← hRR]; rfl
  clear hRR
  have hB := begun_all 64 (by omega)
  unfold BegC at hB
  rw [show (65 : Int) - ((64 : Nat) : Int) = 1 by decide] at hB
  have hB' := Lib.hid hB
  clear hB
  have hR0 := Lies.made w 101 #[.string s, .int .i64 0, .int .i64 1, .int .i64 1, .int .i64 0]
  go_enter Tryz.func24, Tryz.ntmps24
  go_wp2_with fail
  go_loopw [4] (fun v4 wr => ∃ (f a : Nat) (i j : Int) (m : Nat) (data : RM.Dl), data.len ≤ a ∧ Pl s a i j m ∧ s.size < f + a ∧ Rd wr w.heap.size s a i j m ∧ Its wr (fun g => w.heap.size < g) v4 data ∧ Turns (fun k => k = w.heap.size) w wr ∧ Hid (RM.all f data (stt s a i j m) = R)) (fun _ wr => match wr.cell? ⟨w.heap.size, 1, none⟩ with | some (.int .i64 k) => s.size - k.toNat | _ => 0)
  case atStart => exact ⟨s.size + 1, 0, 1, 1, 0, .nil, Nat.zero_le _, ⟨by omega, by omega, by omega, by omega, by omega, by omega, by omega⟩, by omega, hR0, Its.nil _ _, (Turns.refl _ w).alloc _, H0⟩
  case round =>
    obtain ⟨f, a, i, j, m, data, hout, hpa, hfa, hRa, hI, ht, H⟩ := hrel
    clear H0 hR0
    have haa : a ≤ s.size := hpa.2.1
    obtain ⟨f, rfl⟩ : ∃ f', f = f' + 1 := ⟨f - 1, by omega⟩
    obtain ⟨A8, c8, rfl⟩ := hI.read
    have hIl := Lib.hid hI.lt
    have hzr := hRa.lt
    have x4 : wr.cell? ⟨w.heap.size, 4, none⟩ = some (.int .i64 (m : Nat)) := Lies.cell hRa 4
    have fr := Lies.free hRa
    have hp0 : Pl s a i j 0 := ⟨hpa.1, hpa.2.1, hpa.2.2.1, hpa.2.2.2.1, hpa.2.2.2.2.1, hpa.2.2.2.2.2.1, Nat.zero_le _⟩
    have hR1 : Rd (wr.setCell ⟨w.heap.size, 4, none⟩ (.int .i64 0)) w.heap.size s a i j 0 := Lies.stored hRa 4 (.int .i64 0)
    have hI1 : Its (wr.setCell ⟨w.heap.size, 4, none⟩ (.int .i64 0)) (fun g => w.heap.size < g) (.slice A8 data.len c8) data := hI.turns ((Turns.refl (fun k => k = w.heap.size) wr).setCell (p := ⟨w.heap.size, 4, none⟩) (fun _ => rfl) _) (fun g _ hs hh => by omega)
    have ht1 : Turns (fun k => k = w.heap.size) w (wr.setCell ⟨w.heap.size, 4, none⟩ (.int .i64 0)) := ht.setCell (p := ⟨w.heap.size, 4, none⟩) (fun _ => rfl) _
    have hG := H.out
    rw [all_stt] at hG
    unfold allStep at hG
    clear H
    by_cases he : (LM.nx (s.data.toList.drop a) i j).t.e = 0
    · have hN := Lib.hid (rnext_ok _ w.heap.size s a i j 0 hR1 hp0 he)
      have hP := Lib.hid (hp0.after he)
      have hlt : (LM.nx (s.data.toList.drop a) i j).t.k ≠ 14 → a + 1 ≤ a + (LM.nx (s.data.toList.drop a) i j).len := by
        intro hk
        rcases LM.nx_end (s.data.toList.drop a) i j he with h | h
        · exact absurd h.1 hk
        · omega
      have hlt' := Lib.hid hlt
      rw [if_neg (by simp [he])] at hG
      clear hlt
      generalize LM.nx (s.data.toList.drop a) i j = X at *
      generalize (LM.mv (seg s a X.len) i j).1 = i' at *
      generalize (LM.mv (seg s a X.len) i j).2 = j' at *
      generalize a + X.len = a' at *
      clear he hp0
      by_cases h14 : X.t.k = 14
      · rw [if_pos h14] at hG
        have hG' := Lib.hid hG
        have e14 : (X.t.k == 14) = true := by simp [h14]
        clear hG h14
        go_wp2_with (first
          | (go_at_call 44
             refine hN.out.mono ?_
             rintro e w1 ⟨rfl, hR2, ht2⟩
             unfold tka6
             have hz1 := hR2.lt
             have ht3 : Turns (fun k => k = w.heap.size) w w1 := ht1.trans ht2
             have hI2 := hI1.turns ht2 (fun g _ hs hh => by omega)))
        go_ret2
        rw [← hG'.out]
        exact ⟨_, rfl, (hI2.dat.turns ((Turns.refl (fun _ => False) w1).alloc _) (fun _ _ _ h => h)).mono (fun g _ hs => by omega), (ht3.alloc _).below (Nat.le_refl _) (fun i hi => by omega)⟩
      · rw [if_neg h14] at hG
        have e14 : (X.t.k == 14) = false := by simp [h14]
        have hlt2 := hlt'.out h14
        have hpl : a' ≤ s.size := (hP.out h14).2.1
        have hC := Lib.hid (fun w' (h : Rd w' w.heap.size s a' i' j' 1) => hB'.out w' w.heap.size s a' i' j' 1 X a' h hP.out)
        clear h14
        cases hbeg : RM.beg 64 X (stt s a' i' j' 1) with
        | error x =>
          rw [hbeg] at hG hC
          have hG' := Lib.hid hG
          clear hG hbeg
          unfold RPost at hC
          go_wp2_with (first
            | (go_at_call 44
               refine hN.out.mono ?_
               rintro e w1 ⟨rfl, hR2, ht2⟩
               unfold tka6
               have hz1 := hR2.lt
               have ht3 : Turns (fun k => k = w.heap.size) w w1 := ht1.trans ht2
               have hI2 := hI1.turns ht2 (fun g _ hs hh => by omega))
            | (go_at_call 45
               refine (hC.out _ (Lies.alloc hR2 _)).mono ?_
               rintro e w3 ⟨rfl, ht4⟩
               have ht5 : Turns (fun k => k = w.heap.size) w w3 := (ht3.alloc _).trans ht4
               unfold dt0 ekv))
          go_ret2
          rw [← hG'.out]
          exact ⟨rfl, (ht5.alloc _).below (Nat.le_refl _) (fun i hi => by omega)⟩
        | ok p =>
          obtain ⟨d, t⟩ := p
          have hble := RM.beg_le 64 _ _ _ _ hbeg
          rw [hbeg] at hG hC
          have hG' := Lib.hid hG
          have hblh := Lib.hid hble
          clear hG hbeg hble
          unfold RPost at hC
          go_wp2_with (first
            | (go_at_call 44
               refine hN.out.mono ?_
               rintro e w1 ⟨rfl, hR2, ht2⟩
               unfold tka6
               have hz1 := hR2.lt
               have ht3 : Turns (fun k => k = w.heap.size) w w1 := ht1.trans ht2
               have hI2 := hI1.turns ht2 (fun g _ hs hh => by omega))
            | (go_at_call 45
               refine (hC.out _ (Lies.alloc hR2 _)).mono ?_
               rintro e w3 ⟨vd, a3, i3, j3, m3, rfl, hst, hp3, hR3, hd3, ht4⟩
               obtain ⟨A3, c3, rfl⟩ := hd3.read
               have hG3 := hG'.out
               rw [hst] at hG3
               have hG3' := Lib.hid hG3
               have hlen3 : a' ≤ a3 := by
                 have h := hblh.out
                 rw [hst] at h
                 have h3 := hp3.2.1
                 have h4 : (s.data.toList.drop a3).length ≤ (s.data.toList.drop a').length := h
                 rw [List.length_drop, List.length_drop, size_len] at h4
                 omega
               have hz3 := hR3.lt
               have ht5 : Turns (fun k => k = w.heap.size) w w3 := (ht3.alloc _).trans ht4
               have hIl2 := Lib.hid hI2.lt
               have hI3 := (hI2.turns ((Turns.refl (fun _ => False) w1).alloc (.cells #[.int .i64 X.t.k, .int .i64 X.t.n, .string ⟨X.t.s.toArray⟩, .int .i64 X.line, .int .i64 X.col, .int .i64 (a' : Nat)] 103)) (fun _ _ _ h => h)).turns ht4 (fun g _ hs hh => by omega)
               have hone : DatAt w3 (fun g => w.heap.size < g ∧ (Value.slice A8 data.len c8).ownBlock ≠ some g) (.one d) [.int .i64 d.k, .int .i64 d.n, .string ⟨d.s.toArray⟩, .slice A3 d.is.len c3] :=
                 DatAt.cell1 (hd3.mono (fun g _ hs => by simp at hs; exact ⟨by omega, fun hh => by have := (hIl2.out _ hh).2; omega⟩))
               clear hst hG3)
            | (at_builtin
               have hIl3 := hI3.lt
               obtain ⟨cs, h1, -, h3⟩ := hI3
               refine wpList_append_row (v := .slice A8 data.len c8) (x := .slice (some ⟨w3.heap.size + 1, 0, none⟩) 1 1) (.agg #[.int .i64 0, .int .i64 0, .string ⟨#[]⟩, .slice none 0 0]) 56 Tryz.infoDatum rfl (by decide) rfl _ _ 22 rfl Tryz.underlying22 rfl rfl (own_turns h1 (((Turns.refl (fun _ => False) _).alloc _).alloc _) (fun _ _ h => h)) (own_lit4b w3 _ 24 #[.int .i64 d.k, .int .i64 d.n, .string ⟨d.s.toArray⟩, .slice A3 d.is.len c3]) (DatAt.one hone) (by omega) (by omega) (by simp) ?_
               intro v9 w9 hown9 hg9 hat9
               have T1 := Turns.appendedS hg9
               have hI9 : Its w9 (fun g => w.heap.size < g) v9 (data.snoc d) := Its.grew (e := .one d) hIl3 h3 hone (((Turns.refl (fun _ => False) _).alloc _).alloc _) hown9 hg9 hat9 (fun g _ hs => hs) (by simp; omega)
               have hR9 := (Lies.alloc (Lies.alloc hR3 _) _).turns T1 (fun hh => by have := (hIl3 _ hh).1; omega)
               have ht9 : Turns (fun k => k = w.heap.size) w w9 := ((ht5.alloc _).alloc _).then T1 (fun k hk hh => by have := (hIl3 _ hh).1; omega)
               clear hg9 hat9 hown9 T1))
          go_roundw
          case rel => exact ⟨f, a3, i3, j3, m3, data.snoc d, by rw [RM.Dl.len_snoc]; omega, hp3, by omega, hR9, hI9, ht9, hG3'⟩
          case measure =>
            have q1 : w9.cell? ⟨w.heap.size, 1, none⟩ = some (.int .i64 (a3 : Nat)) := Lies.cell hR9 1
            have q2 : wr.cell? ⟨w.heap.size, 1, none⟩ = some (.int .i64 (a : Nat)) := Lies.cell hRa 1
            have := hp3.2.1
            rw [q1, q2]
            simp; omega
    · rw [if_pos he] at hG
      have hN := Lib.hid (rnext_bad _ w.heap.size s a i j 0 hR1 hp0 he)
      have hG' := Lib.hid hG
      clear hG hp0 he
      generalize LM.nx (s.data.toList.drop a) i j = X at *
      go_wp2_with (first
        | (go_at_call 44
           refine hN.out.mono ?_
           rintro e w1 ⟨rfl, hb1⟩
           unfold tk0 erv
           have ht3 : Turns (fun k => k = w.heap.size) w w1 := ht1.trans (Turns.of_below hb1 _)))
      go_ret2
      rw [← hG'.out]
      exact ⟨rfl, (ht3.alloc _).below (Nat.le_refl _) (fun i hi => by omega)⟩
end Go.Proofs.YtbomodendobnkaaGreat

/- The law's helpers of stage 12: small, few, datum. -/
namespace Go.Proofs.YtbomodendobnkaaGreat
open Go.ChangeShapes Go.WideShapes Go.ChangeAt Go.RowKit Go.Deep
open MM (Bl Bm Var)

def rsm (x : RM.Dm) : Bool := decide (SM.hi x.is + 1 ≤ 90) && decide (SM.sz x.is + 1 < 5000)
def sm12 (x : RM.Dm) : Bool := rsm x && decide (SM.sz x.is + 1 < 600)
theorem ret_b' {a b : Bool} (h : a = b) : Ending.returned (.bool a) = .returned (.bool b) := by rw [h]
set_option maxRecDepth 100000 in
set_option maxHeartbeats 2000000 in
theorem rsm_any (x : RM.Dm) (w : World) (v : Value) (h : In w v x.is) : Calls Tryz.prog 14 #[dtv x v] w fun e w' => e = .returned (.bool (rsm x)) ∧ Went w w' := by
  obtain ⟨A, c, rfl⟩ := h.read
  obtain ⟨Z, hZ⟩ : ∃ Z, SM.sz x.is = Z := ⟨_, rfl⟩
  obtain ⟨H, hH⟩ : ∃ H, SM.hi x.is = H := ⟨_, rfl⟩
  have hD := Lib.hid (fun (w' : World) (hb : Below w.heap.size w w') => hi_any x w' (.slice A x.is.len c) 100 (h.below hb) (by omega) (by omega))
  have hC := Lib.hid (fun (w' : World) (hb : Below w.heap.size w w') (hf : (H : Int) ≤ 100000) => rparts_any x w' (.slice A x.is.len c) (h.below hb) (by rw [hH]; exact hf))
  rw [hZ] at hC
  rw [hH] at hD
  unfold rsm
  rw [hZ, hH]
  clear hZ hH h
  unfold dtv at hC hD ⊢
  obtain ⟨N, hN⟩ : ∃ N, x.is.len = N := ⟨_, rfl⟩
  rw [hN] at hC hD ⊢
  clear hN
  have hL := Lies.made w 24 #[.int .i64 x.k, .int .i64 x.n, .string ⟨x.s.toArray⟩, .slice A N c]
  have hb0 : Below w.heap.size w (w.alloc (.cells #[.int .i64 x.k, .int .i64 x.n, .string ⟨x.s.toArray⟩, .slice A N c] 24)) := m_box _ _ _
  by_cases h1 : H + 1 ≤ 90
  · rw [decide_eq_true h1, Bool.true_and]
    go_enter Tryz.func14, Tryz.ntmps14
    go_wp2_with (first
      | (go_at_call 27
         refine (hD.out _ hb0).mono ?_
         rintro e w5 ⟨y5, h50, rfl, hb5⟩
         have hy : y5 ≤ 90 := by omega
         clear h50
         have hM := hL.below hb5 hL.lt
         have hb6 : Below w.heap.size w w5 := hb0.trans (hb5.mono (by simp))
         have y0 := hM.cell 0
         have y1 := hM.cell 1
         have y2 := hM.cell 2
         have y3 := hM.cell 3
         simp only [List.getElem?_cons_succ, List.getElem?_cons_zero] at y0 y1 y2 y3
         clear hL hb0 hb5 hM)
      | (go_at_call 15
         refine (hC.out _ hb6 (by omega)).mono ?_
         rintro e w7 ⟨y7, h70, rfl, hb7⟩
         have h70' := Lib.hid h70
         clear h70))
    go_ret
    exact ⟨ret_b' (by have h70 := h70'.out; rw [Bool.eq_iff_iff]; simp; omega), hb6.trans (hb7.mono hb6.size)⟩
  · rw [decide_eq_false h1, Bool.false_and]
    go_enter Tryz.func14, Tryz.ntmps14
    go_wp2_with (
      go_at_call 27
      refine (hD.out _ hb0).mono ?_
      rintro e w5 ⟨y5, h50, rfl, hb5⟩
      have hy : 90 < y5 := by omega
      clear h50)
    go_ret
    exact ⟨rfl, hb0.trans (hb5.mono (by simp))⟩
set_option maxRecDepth 100000 in
set_option maxHeartbeats 2000000 in
theorem sm12_any (x : RM.Dm) (w : World) (v : Value) (h : In w v x.is) : Calls Tryz.prog 6 #[dtv x v] w fun e w' => e = .returned (.bool (sm12 x)) ∧ Went w w' := by
  obtain ⟨A, c, rfl⟩ := h.read
  obtain ⟨Z, hZ⟩ : ∃ Z, SM.sz x.is = Z := ⟨_, rfl⟩
  have hD := Lib.hid (fun (w' : World) (hb : Below w.heap.size w w') => rsm_any x w' (.slice A x.is.len c) (h.below hb))
  have hC := Lib.hid (fun (w' : World) (hb : Below w.heap.size w w') (hf : (SM.hi x.is : Int) ≤ 100000) => rparts_any x w' (.slice A x.is.len c) (h.below hb) hf)
  obtain ⟨B, hB⟩ : ∃ B, rsm x = B := ⟨_, rfl⟩
  have hBh : B = true → (SM.hi x.is : Int) ≤ 100000 := fun e => by
    rw [← hB] at e
    unfold rsm at e
    simp only [Bool.and_eq_true, decide_eq_true_eq] at e
    omega
  unfold sm12
  rw [hB] at hD ⊢
  rw [hZ] at hC ⊢
  clear hZ h hB
  unfold dtv at hC hD ⊢
  have hL := Lies.made w 24 #[.int .i64 x.k, .int .i64 x.n, .string ⟨x.s.toArray⟩, .slice A x.is.len c]
  have hb0 : Below w.heap.size w (w.alloc (.cells #[.int .i64 x.k, .int .i64 x.n, .string ⟨x.s.toArray⟩, .slice A x.is.len c] 24)) := m_box _ _ _
  cases B with
  | true =>
    rw [Bool.true_and]
    have hhi := Lib.hid (hBh rfl)
    clear hBh
    go_enter Tryz.func6, Tryz.ntmps6
    go_wp2_with (first
      | (go_at_call 14
         refine (hD.out _ hb0).mono ?_
         rintro e w5 ⟨rfl, hb5⟩
         have hM := hL.below hb5 hL.lt
         have hb6 : Below w.heap.size w w5 := hb0.trans (hb5.mono (by simp))
         have y0 := hM.cell 0
         have y1 := hM.cell 1
         have y2 := hM.cell 2
         have y3 := hM.cell 3
         simp only [List.getElem?_cons_succ, List.getElem?_cons_zero] at y0 y1 y2 y3
         clear hL hb0 hb5 hM)
      | (go_at_call 15
         refine (hC.out _ hb6 hhi.out).mono ?_
         rintro e w7 ⟨y7, h70, rfl, hb7⟩
         have h70' := Lib.hid h70
         clear h70))
    go_ret
    exact ⟨ret_b' (by have h70 := h70'.out; rw [Bool.eq_iff_iff]; simp; omega), hb6.trans (hb7.mono hb6.size)⟩
  | false =>
    rw [Bool.false_and]
    clear hBh
    go_enter Tryz.func6, Tryz.ntmps6
    go_wp2_with (
      go_at_call 14
      refine (hD.out _ hb0).mono ?_
      rintro e w5 ⟨rfl, hb5⟩)
    go_ret
    exact ⟨rfl, hb0.trans (hb5.mono (by simp))⟩

def few12 (lits : List (List UInt8)) (dots : List UInt8) : Bool := decide (lits.length ≤ 30) && decide (dots.length ≤ 100) && decide (∀ x ∈ lits, x.length ≤ 100)
theorem Sn.at_ {w : World} {A : Option Addr} {n c : Nat} {l : List (List UInt8)} (h : Sn w (.slice A n c) l) {j : Nat} {x : List UInt8} (hx : l[j]? = some x) :
    ∃ b o, A = some ⟨b, o, none⟩ ∧ b < w.heap.size ∧ w.cell? ⟨b, o + j, none⟩ = some (.string ⟨x.toArray⟩) := by
  obtain ⟨A', c', e, hl, b, o, h1, h2⟩ := h
  injection e with e1 e2 e3
  subst e1
  have hj := (List.getElem?_eq_some_iff.1 hx).1
  exact ⟨b, o, (h1 (by omega)).1, (h1 (by omega)).2, h2 j x hx⟩
set_option maxRecDepth 100000 in
set_option maxHeartbeats 2000000 in
theorem few_any (w : World) (lv : Value) (lits : List (List UInt8)) (dots : List UInt8) (hl : Sn w lv lits) (hs : ∀ x ∈ lits, x.length ≤ maxLen) (_hd : dots.length ≤ maxLen) :
    Calls Tryz.prog 5 #[lv, .string ⟨dots.toArray⟩] w fun e w' => e = .returned (.bool (few12 lits dots)) ∧ Went w w' := by
  obtain ⟨A, c, rfl⟩ := hl.read
  have hdz : (⟨dots.toArray⟩ : ByteArray).size = dots.length := by show dots.toArray.size = _; simp
  unfold few12
  by_cases h1 : lits.length ≤ 30
  · by_cases h2 : dots.length ≤ 100
    · rw [decide_eq_true h1, decide_eq_true h2, Bool.true_and, Bool.true_and]
      have h1' : ¬ (30 : Int) < lits.length := by omega
      have h2' : ¬ (100 : Int) < dots.length := by omega
      obtain ⟨P, hP⟩ : ∃ P, decide (∀ x ∈ lits, x.length ≤ 100) = P := ⟨_, rfl⟩
      rw [hP]
      go_enter Tryz.func5, Tryz.ntmps5
      go_wp2_with fail
      clear _hd h2 h2' hdz
      go_loopw [17] (fun v17 wr => ∃ (j : Nat), j ≤ lits.length ∧ v17 = .int .i64 j ∧ Hid (∀ x ∈ lits.take j, x.length ≤ 100) ∧ wr = w) (fun v17 _ => lits.length - (intOf v17).toNat)
      case atStart => exact ⟨0, Nat.zero_le _, rfl, Lib.hid (by simp), rfl⟩
      case round =>
        obtain ⟨j, hj, rfl, ha, rfl⟩ := hrel
        by_cases hlt : j < lits.length
        · obtain ⟨x, hx⟩ : ∃ x, lits[j]? = some x := ⟨_, List.getElem?_eq_getElem hlt⟩
          obtain ⟨b, o, rfl, hbl, hc⟩ := hl.at_ hx
          have hxl : (⟨x.toArray⟩ : ByteArray).size = x.length := by show x.toArray.size = _; simp
          have hxm : x.length ≤ maxLen := hs x (List.mem_of_getElem? hx)
          unfold maxLen at hxm
          by_cases hbig : x.length ≤ 100
          · have hn := Lib.hid (show ∀ y ∈ lits.take (j + 1), y.length ≤ 100 by
              intro y hy
              rw [List.take_add_one, hx] at hy
              simp only [Option.toList_some, List.mem_append, List.mem_singleton] at hy
              rcases hy with hy | rfl
              · exact ha.out y hy
              · exact hbig)
            have hg : ¬ (100 : Int) < x.length := by omega
            clear hx hs hl ha
            go_wp2_with fail
            go_roundw
            case rel => exact ⟨j + 1, by omega, by go_num, hn, trivial⟩
            case measure => simp [intOf]; omega
          · have hn : decide (∀ y ∈ lits, y.length ≤ 100) = false := decide_eq_false (fun h => hbig (h x (List.mem_of_getElem? hx)))
            have hPf := Lib.hid (hP.symm.trans hn)
            have hg : (100 : Int) < x.length := by omega
            clear hx hs hl ha hn hP
            go_wp2_with fail
            go_ret
            exact ⟨by rw [hPf.out]; rfl, Below.refl _ _⟩
        · obtain rfl : j = lits.length := by omega
          have hn : decide (∀ y ∈ lits, y.length ≤ 100) = true := decide_eq_true (by have := ha.out; rwa [List.take_length] at this)
          have hPf := Lib.hid (hP.symm.trans hn)
          clear hs hl ha hn hP
          go_wp2_with fail
          go_ret
          exact ⟨by rw [hPf.out]; rfl, Below.refl _ _⟩
    · rw [decide_eq_false h2, Bool.and_false, Bool.false_and]
      have h1' : ¬ (30 : Int) < lits.length := by omega
      have h2' : (100 : Int) < dots.length := by omega
      go_enter Tryz.func5, Tryz.ntmps5
      go_wp2_with fail
      go_ret
      exact ⟨rfl, Below.refl _ _⟩
  · rw [decide_eq_false h1, Bool.false_and, Bool.false_and]
    have h1' : (30 : Int) < lits.length := by omega
    go_enter Tryz.func5, Tryz.ntmps5
    go_wp2_with fail
    go_ret
    exact ⟨rfl, Below.refl _ _⟩

/-- what datum answers where the text is one datum -/
def DatumN (x : RM.Dm) (w : World) (e : Ending) (w' : World) : Prop := ∃ v, e = .returned (dtv x v) ∧ Cn w' v x.is ∧ Went w w'
set_option maxRecDepth 100000 in
set_option maxHeartbeats 2000000 in
theorem datum12_any (s : ByteArray) (hs : s.size ≤ 16384) (x : RM.Dm) (hR : RM.all (s.size + 1) .nil (RM.start s.data.toList) = .ok (.one x)) (w : World) :
    Calls Tryz.prog 11 #[.string s] w (DatumN x w) := by
  have hA := Lib.hid (fun w => rAll_any s hs w)
  rw [hR] at hA
  clear hR
  have hz1 := (Lies.made w 24 #[.int .i64 0, .int .i64 0, .string ⟨#[]⟩, .slice none 0 0])
  unfold DatumN
  go_enter Tryz.func11, Tryz.ntmps11
  go_wp2_with (
    go_at_call 24
    refine (hA.out _).mono ?_
    rintro e w1 ⟨v, rfl, hD, hb1⟩
    obtain ⟨L, c, rfl⟩ := hD.read
    rw [show (RM.Dl.one x).len = 1 by cases x; rfl] at hD ⊢
    obtain ⟨g, u, rfl, hg, c0, c1, c2, c3, hI⟩ := hD.at_ (i := 0) (x := x) (by cases x; rfl)
    obtain ⟨U, cu, rfl⟩ := hI.read
    have hM := hz1.below hb1 hz1.lt
    have hI' := Lib.hid hI
    have hM' := Lib.hid hM
    have m0 := hM.cell 0
    have m1 := hM.cell 1
    have m2 := hM.cell 2
    have m3 := hM.cell 3
    have f1 := hM.free
    simp only [List.getElem?_cons_zero, List.getElem?_cons_succ, Nat.zero_mul, Nat.zero_add] at m0 m1 m2 m3 c0 c1 c2 c3
    have hb2 : Below w.heap.size w w1 := (m_box w _ _).trans (hb1.mono (by simp))
    clear hD hI hM)
  have hF := four_lies hM'.out (.int .i64 x.k) (.int .i64 x.n) (.string ⟨x.s.toArray⟩) (.slice U x.is.len cu)
  have r0 := hF.cell 0
  have r1 := hF.cell 1
  have r2 := hF.cell 2
  have r3 := hF.cell 3
  have hd9 := hI'.out.turns (four_one w1 w.heap.size (.int .i64 x.k) (.int .i64 x.n) (.string ⟨x.s.toArray⟩) (.slice U x.is.len cu)) (fun g _ hs hh => by simp at hs; omega)
  have hb10 := four_below hb2 (g := w.heap.size) (Nat.le_refl _) (.int .i64 x.k) (.int .i64 x.n) (.string ⟨x.s.toArray⟩) (.slice U x.is.len cu)
  unfold four at r0 r1 r2 r3 hd9 hb10
  simp only [List.getElem?_cons_zero, List.getElem?_cons_succ] at r0 r1 r2 r3
  exact bodyPost_ret (v := .agg #[.int .i64 x.k, .int .i64 x.n, .string ⟨x.s.toArray⟩, .slice U x.is.len cu]) (by simp [results, Tryz.results11, go_sem, r0, r1, r2, r3]) rfl ⟨_, rfl, hd9.cn, hb10⟩
end Go.Proofs.YtbomodendobnkaaGreat
