/- A cell is shaded; a task is finished. -/
import Derived.Test.YtagedholocgahaaGreatDoorTHeapD
namespace Go.Proofs.YtagedholocgahaaGreatDoor
open Go.ChangeShapes Go.WideShapes Go.ChangeAt Go.RowKit

section
variable {B : Int} {G : Geo} {H : Hp} {R : Nat → List Int} {q p b : Nat}

theorem cl1_size (m : Int) : cl1 (msize m) = (cln (msize m) : Int) := by
  have := msize_bd m
  rw [cl1, if_neg (by omega), if_pos (by omega)]
theorem pb_own {w w' : World} (h : Turns (fun k => k = p ∨ k = b) w w') : Turns (Own3 q p b) w w' := own_of_pb h

theorem finish_any (x m : Int) (w : World) (h : Tr w q p b G H) (hi : inside H.ws.length x = true) (m0 : 0 ≤ m) (m1 : m < 18446744073709551616) (hc : H.inTime) (k : MoveOk (sv H.ws x (mwith m 0 H.next)) x (hd (8 + cln (msize m)))) :
    Calls Tryz.prog 118 #[.pointer (some ⟨q, 0, none⟩), .int .i64 x, .int .u64 m] w fun e w' => e = .returned (.tuple #[]) ∧ Tr w' q p b G (H.finish x m) ∧ Turns (fun k => k = p ∨ k = b) w w' := by
  have SS := Lib.hid (setMark_any x m 0 w h hi m0 m1 (by omega) (by omega) hc)
  have ZZ := Lib.hid (fun w => size_any m m0 m1 w)
  have hn := cln_lt (msize m)
  have CC := Lib.hid (fun w1 (h1 : Tr w1 q p b G (H.setMark x m 0)) => cl1_size m ▸ class_any (msize m) w1 h1.tab)
  have HH := Lib.hid (fun w => head_any (8 + cln (msize m)) (by omega) w)
  have MM := Lib.hid (fun w1 (h1 : Tr w1 q p b G (H.setMark x m 0)) => move_any x (hd (8 + cln (msize m))) w1 h1 k)
  have E : Hid ((H.setMark x m 0).move x (hd (8 + cln (msize m))) = H.finish x m) := rfl
  clear h hi m0 m1 hc k
  generalize H.setMark x m 0 = H1 at *
  generalize cln (msize m) = c at *
  generalize msize m = s at *
  simp only [Int.natCast_add] at HH
  generalize hd (8 + c) = d at *
  go_enter Tryz.func118, Tryz.ntmps118
  go_wp2_with (first
    | (go_at_call 85; refine SS.out.mono ?_; rintro e w1 ⟨rfl, hs1, ht1⟩)
    | (go_at_call 91; refine (ZZ.out _).mono ?_; rintro e w' ⟨rfl, rfl⟩)
    | (go_at_call 49; refine (CC.out _ hs1).mono ?_; rintro e w' ⟨rfl, rfl⟩)
    | (go_at_call 83; refine (HH.out _).mono ?_; rintro e w' ⟨rfl, rfl⟩)
    | (go_at_call 84; refine (MM.out _ hs1).mono ?_; rintro e w2 ⟨rfl, hs2, ht2⟩))
  go_end0
  exact ⟨rfl, by rw [← E.out]; exact hs2, ht1.trans ht2⟩

theorem shade_no1 (i : Inv B G H R) (v : Int) (h0 : 0 ≤ v) (h1 : v < 18446744073709551616) (w : World) (h : Tr w q p b G H) (hn : (G.plc v).2 = false ∨ (G.plc v).2 = true ∧ H.mrk = false) :
    Calls Tryz.prog 59 #[.pointer (some ⟨q, 0, none⟩), .int .u64 v] w fun e w' => e = .returned (.tuple #[]) ∧ Tr w' q p b G H ∧ Turns (Own3 q p b) w w' := by
  have PP := Lib.hid (place_any i.ok v h0 h1 w h)
  have TT := Lib.hid (fun k => h.drewN k)
  have c8 : w.cell? ⟨q, 20, none⟩ = some (.bool H.mrk) := h.here.cell 20
  clear h i
  generalize (G.plc v).1 = x at *
  rcases hn with hn | ⟨hn, hm⟩
  · rw [hn] at PP
    clear hn
    go_enter Tryz.func59, Tryz.ntmps59
    go_wp2_with (go_at_call 103; refine PP.out.mono ?_; rintro e w' ⟨rfl, k, rfl⟩)
    refine bodyPost_ret (results_none rfl _ _ _) rfl ?_
    exact ⟨rfl, TT.out k, own_drewN _ _⟩
  · rw [hn] at PP
    rw [hm] at c8
    clear hn hm
    go_enter Tryz.func59, Tryz.ntmps59
    go_wp2_with (go_at_call 103; refine PP.out.mono ?_; rintro e w' ⟨rfl, k, rfl⟩)
    refine bodyPost_ret (results_none rfl _ _ _) rfl ?_
    exact ⟨rfl, TT.out k, own_drewN _ _⟩
theorem shade_no2 (i : Inv B G H R) (v : Int) (h0 : 0 ≤ v) (h1 : v < 18446744073709551616) (w : World) (h : Tr w q p b G H) (hp : (G.plc v).2 = true) (hm : H.mrk = true) (hw : H.isWhite (gv H.ws (G.plc v).1) = false) :
    Calls Tryz.prog 59 #[.pointer (some ⟨q, 0, none⟩), .int .u64 v] w fun e w' => e = .returned (.tuple #[]) ∧ Tr w' q p b G H ∧ Turns (Own3 q p b) w w' := by
  have PP := Lib.hid (place_any i.ok v h0 h1 w h)
  have TT := Lib.hid (fun k => h.drewN k)
  have c8 : w.cell? ⟨q, 20, none⟩ = some (.bool H.mrk) := h.here.cell 20
  have hC := (plc_cell i.ok h0 h1 hp).1
  rw [hp] at PP
  rw [hm] at c8
  have hr := i.wrd (G.plc v).1
  have MM := Lib.hid (fun w1 (h1 : Tr w1 q p b G H) => mark_any (G.plc v).1 w1 h1 (i.into hC))
  have WW := Lib.hid (fun w1 (h1 : Tr w1 q p b G H) => hw ▸ isWhite_any (gv H.ws (G.plc v).1) hr.1 hr.2 w1 h1 i.inTime)
  clear h i hp hm hw hC hr
  generalize gv H.ws (G.plc v).1 = m at *
  generalize (G.plc v).1 = x at *
  go_enter Tryz.func59, Tryz.ntmps59
  go_wp2_with (first
    | (go_at_call 103; refine PP.out.mono ?_; rintro e w' ⟨rfl, k, rfl⟩)
    | (go_at_call 99; refine (MM.out _ (TT.out k)).mono ?_; rintro e w2 ⟨rfl, hs2, ht2⟩)
    | (go_at_call 104; refine (WW.out _ hs2).mono ?_; rintro e w' ⟨rfl, k3, rfl⟩))
  refine bodyPost_ret (results_none rfl _ _ _) rfl ?_
  exact ⟨rfl, hs2.drewN k3, ((own_drewN _ _).trans (own_of_p ht2)).drewN k3⟩

theorem shade_yes (i : Inv B G H R) (v : Int) (h0 : 0 ≤ v) (h1 : v < 18446744073709551616) (w : World) (h : Tr w q p b G H) (hp : (G.plc v).2 = true) (hm : H.mrk = true) (hw : H.isWhite (gv H.ws (G.plc v).1) = true) :
    Calls Tryz.prog 59 #[.pointer (some ⟨q, 0, none⟩), .int .u64 v] w fun e w' => e = .returned (.tuple #[]) ∧ Tr w' q p b G (H.shade G v) ∧ Turns (Own3 q p b) w w' := by
  have PP := Lib.hid (place_any i.ok v h0 h1 w h)
  have TT := Lib.hid (fun k => h.drewN k)
  have c8 : w.cell? ⟨q, 20, none⟩ = some (.bool H.mrk) := h.here.cell 20
  have hC := (plc_cell i.ok h0 h1 hp).1
  have hsh : H.shaded G v = true := by simp [Hp.shaded, hp, hm, hw]
  obtain ⟨-, -, hq⟩ := inv_shade i h0 h1
  have E : Hid (H.shade G v = (((H.whiter (cln (msize (gv H.ws (G.plc v).1)))).setMark (G.plc v).1 (gv H.ws (G.plc v).1) 1).move (G.plc v).1 (hd 12))) := by
    unfold Hp.shaded at hsh
    unfold Hid
    rw [Hp.shade, hsh]
    rfl
  replace hq := hq hsh
  obtain ⟨-, hb⟩ := i.white_at hC hw
  have hcls := (i.shp _ _ (by omega) (by have := G.cls_lt (G.plc v).1; omega) hb).2.2.1
  have hwc := i.whic hm _ (G.cls_lt (G.plc v).1)
  have hlen := ring_len i (k := 4 + G.cls (G.plc v).1) (by have := G.cls_lt (G.plc v).1; omega)
  rw [← hcls] at hwc hlen
  have hc4 := cln_lt (msize (gv H.ws (G.plc v).1))
  have hw0 : 0 ≤ H.whi.at_ (cln (msize (gv H.ws (G.plc v).1))) ∧ H.whi.at_ (cln (msize (gv H.ws (G.plc v).1))) ≤ 1048576 := by rw [hwc]; omega
  clear hwc hlen hcls hb
  rw [hp] at PP
  rw [hm] at c8
  have hr := i.wrd (G.plc v).1
  have MM := Lib.hid (fun w1 (h1 : Tr w1 q p b G H) => mark_any (G.plc v).1 w1 h1 (i.into hC))
  have WW := Lib.hid (fun w1 (h1 : Tr w1 q p b G H) => hw ▸ isWhite_any (gv H.ws (G.plc v).1) hr.1 hr.2 w1 h1 i.inTime)
  have ZZ := Lib.hid (fun w => size_any (gv H.ws (G.plc v).1) hr.1 hr.2 w)
  have CC := Lib.hid (fun w1 (h1 : Tr w1 q p b G H) => cl1_size (gv H.ws (G.plc v).1) ▸ class_any (msize (gv H.ws (G.plc v).1)) w1 h1.tab)
  have WH := Lib.hid (fun w1 (h1 : Tr w1 q p b G H) => h1.white hc4)
  have SW := Lib.hid (fun w1 (h1 : Tr w1 q p b G H) => h1.set_white hc4 (H.whi.at_ (cln (msize (gv H.ws (G.plc v).1))) - 1))
  have HD := Lib.hid (fun w => head_any 12 (by omega) w)
  have SM := Lib.hid (fun w1 (h1 : Tr w1 q p b G (H.whiter (cln (msize (gv H.ws (G.plc v).1))))) => setMark_any (G.plc v).1 (gv H.ws (G.plc v).1) 1 w1 h1 (i.into hC) hr.1 hr.2 (by omega) (by omega) (show (H.whiter _).inTime from i.inTime))
  have MV := Lib.hid (fun w1 (h1 : Tr w1 q p b G ((H.whiter (cln (msize (gv H.ws (G.plc v).1)))).setMark (G.plc v).1 (gv H.ws (G.plc v).1) 1)) => move_any (G.plc v).1 (hd 12) w1 h1 hq)
  clear h i hp hm hw hC hr hq hsh
  obtain ⟨w0, w1⟩ := hw0
  rw [E.out]
  clear E
  generalize hH2 : (H.whiter (cln (msize (gv H.ws (G.plc v).1)))).setMark (G.plc v).1 (gv H.ws (G.plc v).1) 1 = H2 at *
  clear hH2
  generalize gv H.ws (G.plc v).1 = m at *
  generalize (G.plc v).1 = x at *
  generalize hcc : cln (msize m) = c at *
  clear hcc
  generalize msize m = s at *
  generalize hd 12 = d at *
  have SM2 := Lib.hid (fun w1 (h1 : Tr w1 q p b G { H with whi := H.whi.put c (H.whi.at_ c - 1) }) => (h1.set_at (H' := H.whiter c) 19 (.int .i64 0) rfl rfl))
  have F5 := Lib.hid (fun w1 (h1 : Tr w1 q p b G H) => h1.here.free (14 + c))
  have F6 := Lib.hid (fun w1 (h1 : Tr w1 q p b G { H with whi := H.whi.put c (H.whi.at_ c - 1) }) => h1.here.free 19)
  have C6 := Lib.hid (fun w1 (h1 : Tr w1 q p b G { H with whi := H.whi.put c (H.whi.at_ c - 1) }) => (h1.here.cell 19 : w1.cell? ⟨q, 19, none⟩ = some (.int .i64 H.mis)))
  have i0 : (0 : Int) ≤ (c : Int) := by omega
  have i1 : (c : Int) < 4 := by omega
  go_enter Tryz.func59, Tryz.ntmps59
  go_wp2_with (first
    | (go_at_call 103; refine PP.out.mono ?_; rintro e w' ⟨rfl, k, rfl⟩)
    | (go_at_call 99; refine (MM.out _ (TT.out k)).mono ?_; rintro e w2 ⟨rfl, hs2, ht2⟩)
    | (go_at_call 104; refine (WW.out _ hs2).mono ?_; rintro e w' ⟨rfl, k3, rfl⟩))
  have hs3 := hs2.drewN k3
  have ht3 := ((own_drewN (q := q) (b := b) w k).trans (own_of_p ht2)).drewN k3
  generalize w2.drewN k3 = w3 at *
  clear hs2 ht2
  have cw := WH.out _ hs3
  have fw := F5.out _ hs3
  have hwr : IntKind.i64.wrap (H.whi.at_ c - 1) = H.whi.at_ c - 1 := IntWalk.i64_in _ (by omega)
  go_region_with (first
    | (go_at_call 91; refine (ZZ.out _).mono ?_; rintro e w' ⟨rfl, rfl⟩)
    | (go_at_call 49; refine (CC.out _ hs3.drew).mono ?_; rintro e w' ⟨rfl, rfl⟩))
  have hs4 := (SW.out _ hs3).drew
  have ht4 := (ht3.setCell (p := ⟨q, 14 + c, none⟩) (fun _ => .inl rfl) (.int .i64 (H.whi.at_ c - 1))).drew
  clear hwr cw fw hs3 ht3
  generalize (w3.setCell ⟨q, 14 + c, none⟩ (.int .i64 (H.whi.at_ c - 1))).drew = w4 at *
  have c19 := C6.out _ hs4
  have f19 := F6.out _ hs4
  have hs5 := SM2.out _ hs4
  have ht5 := ht4.setCell (p := ⟨q, 19, none⟩) (fun _ => .inl rfl) (.int .i64 0)
  clear hs4 ht4
  go_wp2_with (first
    | (go_at_call 85; refine (SM.out _ hs5).mono ?_; rintro e w6 ⟨rfl, hs6, ht6⟩)
    | (go_at_call 83; refine (HD.out _).mono ?_; rintro e w' ⟨rfl, rfl⟩)
    | (go_at_call 84; refine (MV.out _ hs6).mono ?_; rintro e w7 ⟨rfl, hs7, ht7⟩))
  go_end0
  exact ⟨rfl, hs7, ht5.trans ((own_of_pb ht6).trans (own_of_pb ht7))⟩

/-- Shade, whatever the word. -/
theorem shade_any (i : Inv B G H R) (v : Int) (h0 : 0 ≤ v) (h1 : v < 18446744073709551616) (w : World) (h : Tr w q p b G H) :
    Calls Tryz.prog 59 #[.pointer (some ⟨q, 0, none⟩), .int .u64 v] w fun e w' => e = .returned (.tuple #[]) ∧ Tr w' q p b G (H.shade G v) ∧ Turns (Own3 q p b) w w' := by
  cases hp : (G.plc v).2
  · rw [show H.shade G v = H by rw [Hp.shade, hp]; rfl]
    exact shade_no1 i v h0 h1 w h (.inl hp)
  · cases hm : H.mrk
    · rw [show H.shade G v = H by rw [Hp.shade, hp, hm]; rfl]
      exact shade_no1 i v h0 h1 w h (.inr ⟨hp, hm⟩)
    · cases hw : H.isWhite (gv H.ws (G.plc v).1)
      · rw [show H.shade G v = H by rw [Hp.shade, hp, hm, hw]; rfl]
        exact shade_no2 i v h0 h1 w h hp hm hw
      · exact shade_yes i v h0 h1 w h hp hm hw
end
end Go.Proofs.YtagedholocgahaaGreatDoor
