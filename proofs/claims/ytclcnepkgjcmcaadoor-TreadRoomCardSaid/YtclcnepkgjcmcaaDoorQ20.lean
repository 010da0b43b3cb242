/- A cell is shaded; a task is finished. -/
import Derived.Test.YtclcnepkgjcmcaaDoorQ19
import Derived.Test.YtclcnepkgjcmcaaDoorQ9
namespace Go.Proofs.YtclcnepkgjcmcaaDoor
open Go.ChangeShapes Go.WideShapes Go.ChangeAt Go.RowKit

section
variable {B : Int} {G : Geo} {H : Hp} {R : Nat → List Int} {q p b : Nat}

theorem cl1_size (m : Int) : cl1 (msize m) = (cln (msize m) : Int) := by
  have := msize_bd m
  rw [cl1, if_neg (by omega), if_pos (by omega)]
theorem pb_own {w w' : World} (h : Turns (fun k => k = p ∨ k = b) w w') : Turns (Own3 q p b) w w' := own_of_pb h

theorem finish_any (x m : Int) (w : World) (h : Tr w q p b G H) (hi : inside H.ws.length x = true) (m0 : 0 ≤ m) (m1 : m < 18446744073709551616) (hc : H.inTime) (k : MoveOk (sv H.ws x (mwith m 0 H.next)) x (hd (8 + cln (msize m)))) :
    Calls Tryd.prog 85 #[.pointer (some ⟨q, 0, none⟩), .int .i64 x, .int .u64 m] w fun e w' => e = .returned (.tuple #[]) ∧ Tr w' q p b G (H.finish x m) ∧ Turns (fun k => k = p ∨ k = b) w w' := by
  have SS := Lib.hid (setMark_any x m 0 w h hi m0 m1 (by omega) (by omega) hc)
  have ZZ := Lib.hid (fun w => size_any m m0 m1 w)
  have hn := cln_lt (msize m)
  have CC := Lib.hid (fun w1 (h1 : Tr w1 q p b G (H.setMark x m 0)) => cl1_size m ▸ class_any (msize m) w1 h1.tab)
  have HH := Lib.hid (fun w => head_any (8 + cln (msize m)) (by omega) w)
  have MM := Lib.hid (fun w1 (h1 : Tr w1 q p b G (H.setMark x m 0)) => move_any x (hd (8 + cln (msize m))) w1 h1 k)
  have E : Hid ((H.setMark x m 0).move x (hd (8 + cln (msize m))) = H.finish x m) := rfl
  clear h hi m0 m1 hc k
  generalize H.setMark x m 0 = H1 at *
  generalize cln (msize m) = c at *
  generalize msize m = s at *
  simp only [Int.natCast_add] at HH
  generalize hd (8 + c) = d at *
  go_enter Tryd.func85, Tryd.ntmps85
  go_wp2_with (first
    | (go_at_call 35; refine SS.out.mono ?_; rintro e w1 ⟨rfl, hs1, ht1⟩)
    | (go_at_call 48; refine (ZZ.out _).mono ?_; rintro e w' ⟨rfl, rfl⟩)
    | (go_at_call 19; refine (CC.out _ hs1).mono ?_; rintro e w' ⟨rfl, rfl⟩)
    | (go_at_call 33; refine (HH.out _).mono ?_; rintro e w' ⟨rfl, rfl⟩)
    | (go_at_call 34; refine (MM.out _ hs1).mono ?_; rintro e w2 ⟨rfl, hs2, ht2⟩))
  go_end0
  exact ⟨rfl, by rw [← E.out]; exact hs2, ht1.trans ht2⟩

theorem shade_no1 (i : Inv B G H R) (v : Int) (h0 : 0 ≤ v) (h1 : v < 18446744073709551616) (w : World) (h : Tr w q p b G H) (hn : (G.plc v).2 = false ∨ (G.plc v).2 = true ∧ H.mrk = false) :
    Calls Tryd.prog 41 #[.pointer (some ⟨q, 0, none⟩), .int .u64 v] w fun e w' => e = .returned (.tuple #[]) ∧ Tr w' q p b G H ∧ Turns (Own3 q p b) w w' := by
  have PP := Lib.hid (place_any i.ok v h0 h1 w h)
  have TT := Lib.hid (fun k => h.drewN k)
  have c8 : w.cell? ⟨q, 20, none⟩ = some (.bool H.mrk) := h.here.cell 20
  clear h i
  generalize (G.plc v).1 = x at *
  rcases hn with hn | ⟨hn, hm⟩
  · rw [hn] at PP
    clear hn
    go_enter Tryd.func41, Tryd.ntmps41
    go_wp2_with (go_at_call 65; refine PP.out.mono ?_; rintro e w' ⟨rfl, k, rfl⟩)
    refine bodyPost_ret (results_none rfl _ _ _) rfl ?_
    exact ⟨rfl, TT.out k, own_drewN _ _⟩
  · rw [hn] at PP
    rw [hm] at c8
    clear hn hm
    go_enter Tryd.func41, Tryd.ntmps41
    go_wp2_with (go_at_call 65; refine PP.out.mono ?_; rintro e w' ⟨rfl, k, rfl⟩)
    refine bodyPost_ret (results_none rfl _ _ _) rfl ?_
    exact ⟨rfl, TT.out k, own_drewN _ _⟩
theorem shade_no2 (i : Inv B G H R) (v : Int) (h0 : 0 ≤ v) (h1 : v < 18446744073709551616) (w : World) (h : Tr w q p b G H) (hp : (G.plc v).2 = true) (hm : H.mrk = true) (hw : H.isWhite (gv H.ws (G.plc v).1) = false) :
    Calls Tryd.prog 41 #[.pointer (some ⟨q, 0, none⟩), .int .u64 v] w fun e w' => e = .returned (.tuple #[]) ∧ Tr w' q p b G H ∧ Turns (Own3 q p b) w w' := by
  have PP := Lib.hid (place_any i.ok v h0 h1 w h)
  have TT := Lib.hid (fun k => h.drewN k)
  have c8 : w.cell? ⟨q, 20, none⟩ = some (.bool H.mrk) := h.here.cell 20
  have hC := (plc_cell i.ok h0 h1 hp).1
  rw [hp] at PP
  rw [hm] at c8
  have hr := i.wrd (G.plc v).1
  have MM := Lib.hid (fun w1 (h1 : Tr w1 q p b G H) => mark_any (G.plc v).1 w1 h1 (i.into hC))
  have WW := Lib.hid (fun w1 (h1 : Tr w1 q p b G H) => hw ▸ isWhite_any (gv H.ws (G.plc v).1) hr.1 hr.2 w1 h1 i.inTime)
  clear h i hp hm hw hC hr
  generalize gv H.ws (G.plc v).1 = m at *
  generalize (G.plc v).1 = x at *
  go_enter Tryd.func41, Tryd.ntmps41
  go_wp2_with (first
    | (go_at_call 65; refine PP.out.mono ?_; rintro e w' ⟨rfl, k, rfl⟩)
    | (go_at_call 67; refine (MM.out _ (TT.out k)).mono ?_; rintro e w2 ⟨rfl, hs2, ht2⟩)
    | (go_at_call 68; refine (WW.out _ hs2).mono ?_; rintro e w' ⟨rfl, k3, rfl⟩))
  refine bodyPost_ret (results_none rfl _ _ _) rfl ?_
  exact ⟨rfl, hs2.drewN k3, ((own_drewN _ _).trans (own_of_p ht2)).drewN k3⟩

theorem shade_yes (i : Inv B G H R) (v : Int) (h0 : 0 ≤ v) (h1 : v < 18446744073709551616) (w : World) (h : Tr w q p b G H) (hp : (G.plc v).2 = true) (hm : H.mrk = true) (hw : H.isWhite (gv H.ws (G.plc v).1) = true) :
    Calls Tryd.prog 41 #[.pointer (some ⟨q, 0, none⟩), .int .u64 v] w fun e w' => e = .returned (.tuple #[]) ∧ Tr w' q p b G (H.shade G v) ∧ Turns (Own3 q p b) w w' := by
  have PP := Lib.hid (place_any i.ok v h0 h1 w h)
  have TT := Lib.hid (fun k => h.drewN k)
  have c8 : w.cell? ⟨q, 20, none⟩ = some (.bool H.mrk) := h.here.cell 20
  have hC := (plc_cell i.ok h0 h1 hp).1
  have hsh : H.shaded G v = true := by simp [Hp.shaded, hp, hm, hw]
  obtain ⟨-, -, hq⟩ := inv_shade i h0 h1
  have E : Hid (H.shade G v = (((H.whiter (cln (msize (gv H.ws (G.plc v).1)))).setMark (G.plc v).1 (gv H.ws (G.plc v).1) 1).move (G.plc v).1 (hd 12))) := by
    unfold Hp.shaded at hsh
    unfold Hid
    rw [Hp.shade, hsh]
    rfl
  replace hq := hq hsh
  obtain ⟨-, hb⟩ := i.white_at hC hw
  have hcls := (i.shp _ _ (by omega) (by have := G.cls_lt (G.plc v).1; omega) hb).2.2.1
  have hwc := i.whic hm _ (G.cls_lt (G.plc v).1)
  have hlen := ring_len i (k := 4 + G.cls (G.plc v).1) (by have := G.cls_lt (G.plc v).1; omega)
  rw [← hcls] at hwc hlen
  have hc4 := cln_lt (msize (gv H.ws (G.plc v).1))
  have hw0 : 0 ≤ H.whi.at_ (cln (msize (gv H.ws (G.plc v).1))) ∧ H.whi.at_ (cln (msize (gv H.ws (G.plc v).1))) ≤ 1048576 := by rw [hwc]; omega
  clear hwc hlen hcls hb
  rw [hp] at PP
  rw [hm] at c8
  have hr := i.wrd (G.plc v).1
  have MM := Lib.hid (fun w1 (h1 : Tr w1 q p b G H) => mark_any (G.plc v).1 w1 h1 (i.into hC))
  have WW := Lib.hid (fun w1 (h1 : Tr w1 q p b G H) => hw ▸ isWhite_any (gv H.ws (G.plc v).1) hr.1 hr.2 w1 h1 i.inTime)
  have ZZ := Lib.hid (fun w => size_any (gv H.ws (G.plc v).1) hr.1 hr.2 w)
  have CC := Lib.hid (fun w1 (h1 : Tr w1 q p b G H) => cl1_size (gv H.ws (G.plc v).1) ▸ class_any (msize (gv H.ws (G.plc v).1)) w1 h1.tab)
  have WH := Lib.hid (fun w1 (h1 : Tr w1 q p b G H) => h1.white hc4)
  have SW := Lib.hid (fun w1 (h1 : Tr w1 q p b G H) => h1.set_white hc4 (H.whi.at_ (cln (msize (gv H.ws (G.plc v).1))) - 1))
  have HD := Lib.hid (fun w => head_any 12 (by omega) w)
  have SM := Lib.hid (fun w1 (h1 : Tr w1 q p b G (H.whiter (cln (msize (gv H.ws (G.plc v).1))))) => setMark_any (G.plc v).1 (gv H.ws (G.plc v).1) 1 w1 h1 (i.into hC) hr.1 hr.2 (by omega) (by omega) (show (H.whiter _).inTime from i.inTime))
  have MV := Lib.hid (fun w1 (h1 : Tr w1 q p b G ((H.whiter (cln (msize (gv H.ws (G.plc v).1)))).setMark (G.plc v).1 (gv H.ws (G.plc v).1) 1)) => move_any (G.plc v).1 (hd 12) w1 h1 hq)
  clear h i hp hm hw hC hr hq hsh
  obtain ⟨w0, w1⟩ := hw0
  rw [E.out]
  clear E
  generalize hH2 : (H.whiter (cln (msize (gv H.ws (G.plc v).1)))).setMark (G.plc v).1 (gv H.ws (G.plc v).1) 1 = H2 at *
  clear hH2
  generalize gv H.ws (G.plc v).1 = m at *
  generalize (G.plc v).1 = x at *
  generalize hcc : cln (msize m) = c at *
  clear hcc
  generalize msize m = s at *
  generalize hd 12 = d at *
  have SM2 := Lib.hid (fun w1 (h1 : Tr w1 q p b G { H with whi := H.whi.put c (H.whi.at_ c - 1) }) => (h1.set_at (H' := H.whiter c) 19 (.int .i64 0) rfl rfl))
  have F5 := Lib.hid (fun w1 (h1 : Tr w1 q p b G H) => h1.here.free (14 + c))
  have F6 := Lib.hid (fun w1 (h1 : Tr w1 q p b G { H with whi := H.whi.put c (H.whi.at_ c - 1) }) => h1.here.free 19)
  have C6 := Lib.hid (fun w1 (h1 : Tr w1 q p b G { H with whi := H.whi.put c (H.whi.at_ c - 1) }) => (h1.here.cell 19 : w1.cell? ⟨q, 19, none⟩ = some (.int .i64 H.mis)))
  have i0 : (0 : Int) ≤ (c : Int) := by omega
  have i1 : (c : Int) < 4 := by omega
  go_enter Tryd.func41, Tryd.ntmps41
  go_wp2_with (first
    | (go_at_call 65; refine PP.out.mono ?_; rintro e w' ⟨rfl, k, rfl⟩)
    | (go_at_call 67; refine (MM.out _ (TT.out k)).mono ?_; rintro e w2 ⟨rfl, hs2, ht2⟩)
    | (go_at_call 68; refine (WW.out _ hs2).mono ?_; rintro e w' ⟨rfl, k3, rfl⟩))
  have hs3 := hs2.drewN k3
  have ht3 := ((own_drewN (q := q) (b := b) w k).trans (own_of_p ht2)).drewN k3
  generalize w2.drewN k3 = w3 at *
  clear hs2 ht2
  have cw := WH.out _ hs3
  have fw := F5.out _ hs3
  have hwr : IntKind.i64.wrap (H.whi.at_ c - 1) = H.whi.at_ c - 1 := IntWalk.i64_in _ (by omega)
  go_region_with (first
    | (go_at_call 48; refine (ZZ.out _).mono ?_; rintro e w' ⟨rfl, rfl⟩)
    | (go_at_call 19; refine (CC.out _ hs3.drew).mono ?_; rintro e w' ⟨rfl, rfl⟩))
  have hs4 := (SW.out _ hs3).drew
  have ht4 := (ht3.setCell (p := ⟨q, 14 + c, none⟩) (fun _ => .inl rfl) (.int .i64 (H.whi.at_ c - 1))).drew
  clear hwr cw fw hs3 ht3
  generalize (w3.setCell ⟨q, 14 + c, none⟩ (.int .i64 (H.whi.at_ c - 1))).drew = w4 at *
  have c19 := C6.out _ hs4
  have f19 := F6.out _ hs4
  have hs5 := SM2.out _ hs4
  have ht5 := ht4.setCell (p := ⟨q, 19, none⟩) (fun _ => .inl rfl) (.int .i64 0)
  clear hs4 ht4
  go_wp2_with (first
    | (go_at_call 35; refine (SM.out _ hs5).mono ?_; rintro e w6 ⟨rfl, hs6, ht6⟩)
    | (go_at_call 33; refine (HD.out _).mono ?_; rintro e w' ⟨rfl, rfl⟩)
    | (go_at_call 34; refine (MV.out _ hs6).mono ?_; rintro e w7 ⟨rfl, hs7, ht7⟩))
  go_end0
  exact ⟨rfl, hs7, ht5.trans ((own_of_pb ht6).trans (own_of_pb ht7))⟩

/-- Shade, whatever the word. -/
theorem shade_any (i : Inv B G H R) (v : Int) (h0 : 0 ≤ v) (h1 : v < 18446744073709551616) (w : World) (h : Tr w q p b G H) :
    Calls Tryd.prog 41 #[.pointer (some ⟨q, 0, none⟩), .int .u64 v] w fun e w' => e = .returned (.tuple #[]) ∧ Tr w' q p b G (H.shade G v) ∧ Turns (Own3 q p b) w w' := by
  cases hp : (G.plc v).2
  · rw [show H.shade G v = H by rw [Hp.shade, hp]; rfl]
    exact shade_no1 i v h0 h1 w h (.inl hp)
  · cases hm : H.mrk
    · rw [show H.shade G v = H by rw [Hp.shade, hp, hm]; rfl]
      exact shade_no1 i v h0 h1 w h (.inr ⟨hp, hm⟩)
    · cases hw : H.isWhite (gv H.ws (G.plc v).1)
      · rw [show H.shade G v = H by rw [Hp.shade, hp, hm, hw]; rfl]
        exact shade_no2 i v h0 h1 w h hp hm hw
      · exact shade_yes i v h0 h1 w h hp hm hw
end
end Go.Proofs.YtclcnepkgjcmcaaDoor

/- A task is scanned, or looked at. -/
namespace Go.Proofs.YtclcnepkgjcmcaaDoor
open Go.ChangeShapes Go.WideShapes Go.ChangeAt Go.RowKit

section
variable {B : Int} {G : Geo} {H : Hp} {R : Nat → List Int} {q p b : Nat}

theorem namesWhite_any (i : Inv B G H R) (v : Int) (h0 : 0 ≤ v) (h1 : v < 18446744073709551616) (w : World) (h : Tr w q p b G H) :
    Calls Tryd.prog 86 #[.pointer (some ⟨q, 0, none⟩), .int .u64 v] w fun e w' => e = .returned (.bool (H.namesWhite G v)) ∧ Tr w' q p b G H ∧ Turns (Own3 q p b) w w' := by
  have PP := Lib.hid (place_any i.ok v h0 h1 w h)
  have TT := Lib.hid (fun k => h.drewN k)
  cases hp : (G.plc v).2
  · have e : H.namesWhite G v = false := by rw [Hp.namesWhite, hp]; rfl
    rw [e]
    rw [hp] at PP
    clear hp e h i
    generalize (G.plc v).1 = x at *
    go_enter Tryd.func86, Tryd.ntmps86
    go_wp2_with (go_at_call 65; refine PP.out.mono ?_; rintro e w' ⟨rfl, k, rfl⟩)
    go_ret
    exact ⟨rfl, TT.out k, own_drewN _ _⟩
  · have hC := (plc_cell i.ok h0 h1 hp).1
    have e : H.namesWhite G v = H.isWhite (gv H.ws (G.plc v).1) := by rw [Hp.namesWhite, hp]; rfl
    rw [e]
    rw [hp] at PP
    have hr := i.wrd (G.plc v).1
    have MM := Lib.hid (fun w1 (h1 : Tr w1 q p b G H) => mark_any (G.plc v).1 w1 h1 (i.into hC))
    have WW := Lib.hid (fun w1 (h1 : Tr w1 q p b G H) => isWhite_any (gv H.ws (G.plc v).1) hr.1 hr.2 w1 h1 i.inTime)
    clear h i hp e hC hr
    generalize H.isWhite (gv H.ws (G.plc v).1) = r at *
    generalize gv H.ws (G.plc v).1 = m at *
    generalize (G.plc v).1 = x at *
    go_enter Tryd.func86, Tryd.ntmps86
    go_wp2_with (first
      | (go_at_call 65; refine PP.out.mono ?_; rintro e w' ⟨rfl, k, rfl⟩)
      | (go_at_call 67; refine (MM.out _ (TT.out k)).mono ?_; rintro e w2 ⟨rfl, hs2, ht2⟩)
      | (go_at_call 68; refine (WW.out _ hs2).mono ?_; rintro e w' ⟨rfl, k3, rfl⟩))
    go_ret
    exact ⟨rfl, hs2.drewN k3, ((own_drewN _ _).trans (own_of_p ht2)).drewN k3⟩

theorem scan_weak (i : Inv B G H R) (x : Int) (hx : x ∈ R 12) (ht : mtask (gv H.ws x) = 1) (hf : mform (gv H.ws x) = 3) (w : World) (h : Tr w q p b G H) :
    Calls Tryd.prog 73 #[.pointer (some ⟨q, 0, none⟩), .int .i64 x, .int .u64 (gv H.ws x)] w fun e w' => e = .returned (.tuple #[]) ∧ Tr w' q p b G (H.scan G x (gv H.ws x)) ∧ Turns (Own3 q p b) w w' := by
  have hC := i.rg.place 12 (by omega) x hx
  have hr := i.wrd x
  obtain ⟨-, -, hq⟩ := inv_rest i hx ht hf
  have FF := Lib.hid (fun w => hf ▸ form_any (gv H.ws x) hr.1 hr.2 w)
  have c6 : w.cell? ⟨q, 18, none⟩ = some (.int .i64 H.wai) := h.here.cell 18
  have f6 := h.here.free 18
  have S6 := h.set_at (H' := { H with wai := H.wai + 1 }) 18 (.int .i64 (H.wai + 1)) rfl rfl
  have t6 := own_set (q := q) (p := p) (b := b) w 18 (.int .i64 (H.wai + 1))
  have hwai : 0 ≤ H.wai ∧ H.wai ≤ 1048576 := by
    obtain ⟨g, l, e, -, -, hl, -⟩ := i.tasks
    have := ring_len i (k := 12) (by omega)
    rw [e, List.length_append] at this
    omega
  obtain ⟨w0, w1⟩ := hwai
  have SM := Lib.hid (fun w1 (h1 : Tr w1 q p b G { H with wai := H.wai + 1 }) => setMark_any x (gv H.ws x) 2 w1 h1 (i.into hC) hr.1 hr.2 (by omega) (by omega) (show ({ H with wai := H.wai + 1 } : Hp).inTime from i.inTime))
  have WT := Lib.hid (fun w1 (h1 : Tr w1 q p b G (({ H with wai := H.wai + 1 } : Hp).setMark x (gv H.ws x) 2)) => wait_any x w1 h1 hq)
  have E : Hid (H.scan G x (gv H.ws x) = (({ H with wai := H.wai + 1 } : Hp).setMark x (gv H.ws x) 2).wait x) := by
    unfold Hid
    rw [Hp.scan, if_pos hf]
  rw [E.out]
  clear E h i hC hr hq hf ht
  generalize (({ H with wai := H.wai + 1 } : Hp).setMark x (gv H.ws x) 2) = H2 at *
  generalize gv H.ws x = m at *
  have S6H := Lib.hid S6
  clear S6
  go_enter Tryd.func73, Tryd.ntmps73
  go_wp2_with (first
    | (go_at_call 46; refine (FF.out _).mono ?_; rintro e w' ⟨rfl, rfl⟩)
    | (go_at_call 35; refine (SM.out _ S6H.out).mono ?_; rintro e w2 ⟨rfl, hs2, ht2⟩)
    | (go_at_call 84; refine (WT.out _ hs2).mono ?_; rintro e w3 ⟨rfl, hs3, ht3⟩))
  go_end0
  exact ⟨rfl, hs3, t6.trans ((own_of_pb ht2).trans (own_of_pb ht3))⟩

theorem scan_raw (i : Inv B G H R) (x : Int) (hx : x ∈ R 12) (ht : mtask (gv H.ws x) = 1) (hf : mform (gv H.ws x) = 2) (w : World) (h : Tr w q p b G H) :
    Calls Tryd.prog 73 #[.pointer (some ⟨q, 0, none⟩), .int .i64 x, .int .u64 (gv H.ws x)] w fun e w' => e = .returned (.tuple #[]) ∧ Tr w' q p b G (H.scan G x (gv H.ws x)) ∧ Turns (Own3 q p b) w w' := by
  have hC := i.rg.place 12 (by omega) x hx
  have hr := i.wrd x
  have hbd := i.bnd
  obtain ⟨-, -, hq⟩ := inv_finish i hx (x := H.wai) (y := H.mis) (by rw [if_neg (by omega)]) (by omega)
  have FF := Lib.hid (fun w => hf ▸ form_any (gv H.ws x) hr.1 hr.2 w)
  have FI := Lib.hid (finish_any x (gv H.ws x) w h (i.into hC) hr.1 hr.2 i.inTime hq)
  have E : Hid (H.scan G x (gv H.ws x) = H.finish x (gv H.ws x)) := by
    unfold Hid
    rw [Hp.scan, if_neg (by omega), if_neg (by omega), if_pos hf]
  rw [E.out]
  clear E h i hC hr hq hf ht hbd
  generalize gv H.ws x = m at *
  go_enter Tryd.func73, Tryd.ntmps73
  go_wp2_with (first
    | (go_at_call 46; refine (FF.out _).mono ?_; rintro e w' ⟨rfl, rfl⟩)
    | (go_at_call 85; refine FI.out.mono ?_; rintro e w2 ⟨rfl, hs2, ht2⟩))
  go_end0
  exact ⟨rfl, hs2, own_of_pb ht2⟩

theorem scan_plain (i : Inv B G H R) (x : Int) (hx : x ∈ R 12) (ht : mtask (gv H.ws x) = 1) (hf : mform (gv H.ws x) = 1) (w : World) (h : Tr w q p b G H) :
    Calls Tryd.prog 73 #[.pointer (some ⟨q, 0, none⟩), .int .i64 x, .int .u64 (gv H.ws x)] w fun e w' => e = .returned (.tuple #[]) ∧ Tr w' q p b G (H.scan G x (gv H.ws x)) ∧ Turns (Own3 q p b) w w' := by
  have hC := i.rg.place 12 (by omega) x hx
  have hr := i.wrd x
  have hsz := msize_bd (gv H.ws x)
  obtain ⟨n, hn⟩ := Int.eq_ofNat_of_zero_le hsz.1
  have FF := Lib.hid (fun w => hf ▸ form_any (gv H.ws x) hr.1 hr.2 w)
  have ZZ := Lib.hid (fun w => hn ▸ size_any (gv H.ws x) hr.1 hr.2 w)
  have hin : ∀ j, j < n → inside H.ws.length (x + 3 + (j : Int)) = true := fun j hj => (i.fields (k := 12) (by omega) (by omega) hx (j := j) (by omega) (by omega)).1
  have GG := Lib.hid (fun (j : Nat) (hj : j < n) w1 (h1 : Tr w1 q p b G (H.shadeUp G x j)) => hget_any (x + 3 + (j : Int)) w1 h1 (by
    have := (inv_shadeUp i hx j).2.1.len
    rw [this]
    exact hin j hj))
  have SS := Lib.hid (fun (j : Nat) w1 (h1 : Tr w1 q p b G (H.shadeUp G x j)) =>
    shade_any (inv_shadeUp i hx j).1 (gv (H.shadeUp G x j).ws (x + 3 + (j : Int))) ((inv_shadeUp i hx j).1.wrd _).1 ((inv_shadeUp i hx j).1.wrd _).2 w1 h1)
  have SU : Hid (∀ j : Nat, H.shadeUp G x (j + 1) = (H.shadeUp G x j).shade G (gv (H.shadeUp G x j).ws (x + 3 + (j : Int)))) := fun j => rfl
  have E : Hid (H.scan G x (gv H.ws x) = (H.shadeUp G x n).finish x (gv H.ws x)) := by
    unfold Hid
    rw [Hp.scan, if_neg (by omega), if_pos hf, hn, Int.toNat_natCast]
  have FI := Lib.hid (fun w1 (h1 : Tr w1 q p b G (H.shadeUp G x n)) => by
    obtain ⟨i1, d1, b1, m1, -, -, r3, -⟩ := inv_shadeUp i hx n
    have hbd := i1.bnd
    have hC1 := i1.rg.place 12 (by omega) x b1
    obtain ⟨-, -, hq⟩ := inv_finish i1 b1 (x := (H.shadeUp G x n).wai) (y := (H.shadeUp G x n).mis) (by rw [m1, if_neg (by omega)]) (by omega)
    rw [m1] at hq
    exact finish_any x (gv H.ws x) w1 h1 (i1.into hC1) hr.1 hr.2 i1.inTime hq)
  have hx51 := (Geo.extent i.ok hC).1
  have hxtop := (Geo.extent i.ok hC).2
  have hl := ln_lo (G.cls x)
  have htop := i.ok.lines
  have hx0 : 51 ≤ x ∧ x ≤ 1048576 := by omega
  obtain ⟨x0, x1⟩ := hx0
  have hn127 : n ≤ 127 := by omega
  rw [E.out]
  clear E hsz hn hr hC hf ht hin i hx51 hxtop hl htop hx
  generalize gv H.ws x = m at *
  have T0 : Tr w q p b G (H.shadeUp G x 0) := h
  clear h
  generalize hS : H.shadeUp G x = S at *
  clear hS
  go_enter Tryd.func73, Tryd.ntmps73
  go_wp2_with (first
    | (go_at_call 46; refine (FF.out _).mono ?_; rintro e w' ⟨rfl, rfl⟩)
    | (go_at_call 48; refine (ZZ.out _).mono ?_; rintro e w' ⟨rfl, rfl⟩))
  go_loopw [31] (fun c wr => ∃ j : Nat, j ≤ n ∧ c = .int .i64 j ∧ Tr wr q p b G (S j) ∧ Turns (Own3 q p b) w wr) (fun c _ => n - (intOf c).toNat)
  case atStart => exact ⟨0, by omega, rfl, T0, Turns.refl _ _⟩
  case round =>
    obtain ⟨j, hj, rfl, hs, hts⟩ := hrel
    by_cases hjn : j < n
    · have GJ := Lib.hid (GG.out j hjn)
      have SJ := Lib.hid (SS.out j)
      have UJ : Hid (S (j + 1) = (S j).shade G (gv (S j).ws (x + 3 + (j : Int)))) := SU.out j
      generalize gv (S j).ws (x + 3 + (j : Int)) = f at *
      go_wp2_with (first
        | (go_at_call 52; refine (GJ.out _ hs).mono ?_; rintro e w2 ⟨rfl, hs2, ht2⟩)
        | (go_at_call 41; refine (SJ.out _ hs2).mono ?_; rintro e w3 ⟨rfl, hs3, ht3⟩))
      go_roundw
      case rel => exact ⟨j + 1, by omega, by go_num, by rw [UJ.out]; exact hs3, hts.trans ((own_of_p ht2).trans ht3)⟩
      case measure => simp [intOf]; omega
    · obtain rfl : j = n := by omega
      go_wp2_with (go_at_call 85; refine (FI.out _ hs).mono ?_; rintro e w2 ⟨rfl, hs2, ht2⟩)
      go_end0
      exact ⟨rfl, hs2, hts.trans (own_of_pb ht2)⟩

theorem scan_any (i : Inv B G H R) (x : Int) (hx : x ∈ R 12) (ht : mtask (gv H.ws x) = 1) (w : World) (h : Tr w q p b G H) :
    Calls Tryd.prog 73 #[.pointer (some ⟨q, 0, none⟩), .int .i64 x, .int .u64 (gv H.ws x)] w fun e w' => e = .returned (.tuple #[]) ∧ Tr w' q p b G (H.scan G x (gv H.ws x)) ∧ Turns (Own3 q p b) w w' := by
  have hf := i.shp 12 x (by omega) (by omega) hx
  by_cases h3 : mform (gv H.ws x) = 3
  · exact scan_weak i x hx ht h3 w h
  · by_cases h1 : mform (gv H.ws x) = 1
    · exact scan_plain i x hx ht h1 w h
    · exact scan_raw i x hx ht (by omega) w h
end
end Go.Proofs.YtclcnepkgjcmcaaDoor
