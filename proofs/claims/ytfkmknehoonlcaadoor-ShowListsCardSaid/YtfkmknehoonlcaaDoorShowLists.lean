/- The law ShowLists, walked. -/
import Derived.Test.YtfkmknehoonlcaaDoorShowListsM
namespace Go.Proofs.YtfkmknehoonlcaaDoor
open Go.ChangeShapes Go.WideShapes Go.ChangeAt Go.RowKit

set_option maxRecDepth 100000 in
set_option maxHeartbeats 8000000 in
theorem showLists_walk (l : RM.Dl) (A : Option Addr) (c : Nat) (w : World) (h : In w (.slice A l.len c) l) (hT : Tab w) :
    Calls Tryd.prog 5 #[.slice A l.len c] w fun e w' => e = .returned (.bool true) ∧ Below w.heap.size w w' := by
  have hlen := h.len
  have hA := Lib.hid (fun (w' : World) (hb : Below w.heap.size w w') => awake09_any w' (hT.on hb))
  have hT' := Lib.hid hT
  obtain ⟨N, hN⟩ : ∃ N, l.len = N := ⟨_, rfl⟩
  rw [hN] at h hlen ⊢
  have hN' := Lib.hid hN
  clear hN hT
  by_cases hN60 : N ≤ 60
  · go_enter Tryd.func5, Tryd.ntmps5
    go_wp2_with (go_at_call 6; with_reducible refine (hA.out _ (Below.refl _ _)).mono ?_; rintro e w1 ⟨rfl, b1⟩)
    go_loopw [3, 4, 21] (fun v3 v4 v21 wr => ∃ (j : Nat) (T : ByteArray), j ≤ N ∧ v21 = .int .i64 j ∧ v3 = .string T ∧ Hid (SM.Gr (SM.tk l j) j T.data.toList) ∧ Its wr (fun g => w.heap.size ≤ g) v4 (SM.tk l j) ∧ Below w.heap.size w wr) (fun _ _ v21 _ => N - (intOf v21).toNat)
    case atStart => exact ⟨0, ⟨#[40]⟩, by omega, rfl, rfl, Lib.hid (by rw [show SM.tk l 0 = .nil by cases l <;> rfl]; exact SM.gr_nil), by rw [show SM.tk l 0 = .nil by cases l <;> rfl]; exact Its.nil _ _, b1⟩
    case round =>
      obtain ⟨j, T, hj, rfl, rfl, hG, hI, hb⟩ := hrel
      clear b1
      obtain ⟨A8, c8, rfl⟩ := hI.read
      have htl : (SM.tk l j).len = j := SM.tk_len l j (by rw [hN'.out]; exact hj)
      have hTs : T.size ≤ 12200000 := by rw [← size_len]; exact SM.gr_len hG.out (by omega)
      by_cases hlt : j < N
      · obtain ⟨x, hx⟩ := l.at_some j (by rw [hN'.out]; exact hlt)
        obtain ⟨b, o, B, q, rfl, hbl, p0, p1, p2, p3, hd1⟩ := (h.below hb).at_ hx
        obtain ⟨X, hX⟩ : ∃ X, SM.sz x.is = X := ⟨_, rfl⟩
        obtain ⟨Y, hY⟩ : ∃ Y, SM.hi x.is = Y := ⟨_, rfl⟩
        obtain ⟨sm, hsm⟩ : ∃ sm, SM.small x = sm := ⟨_, rfl⟩
        obtain ⟨ok, hok⟩ : ∃ ok, SM.okd x = ok := ⟨_, rfl⟩
        have hS := Lib.hid (fun (w' : World) (hb' : Below wr.heap.size wr w') => small_any x w' (.slice B x.is.len q) (hd1.below hb'))
        have hC := Lib.hid (fun (w' : World) (hb' : Below wr.heap.size wr w') (hf : (SM.hi x.is : Int) ≤ 100000) => rparts_any x w' (.slice B x.is.len q) (hd1.below hb') hf)
        have hD := Lib.hid (fun (w' : World) (hb' : Below wr.heap.size wr w') => hi_any x w' (.slice B x.is.len q) 70 (hd1.below hb') (by omega) (by omega))
        have hO := Lib.hid (fun (w' : World) (hb' : Below wr.heap.size wr w') (hz : SM.sz x.is ≤ 5000) => own_any x w' (.slice B x.is.len q) (hd1.below hb') hz)
        have hW := Lib.hid (fun (w' : World) (hb' : Below wr.heap.size wr w') v (hi : In w' v x.is) => write_any x w' v hi (hT'.out.on (hb.trans (hb'.mono hb.size))))
        rw [hsm] at hS
        rw [hok] at hW
        rw [hX] at hO
        rw [hX, hY] at hC
        rw [hY] at hD
        unfold HiN at hD
        unfold SzN at hC
        have hsz : sm = true → X ≤ 5000 ∧ Y ≤ 90 := fun e => by
          rw [e] at hsm
          unfold SM.small at hsm
          simp only [Bool.and_eq_true, decide_eq_true_eq] at hsm
          omega
        have hsn := SM.tk_snoc l j x hx
        have hgs : Hid (ok = true → Y + 1 ≤ 60 → X + 1 ≤ 200 → SM.Gr ((SM.tk l j).snoc x) (j + 1) (T.data.toList ++ ((if j = 0 then [] else [32]) ++ SM.txt false x))) := Lib.hid (fun e h1 h2 => by
          rw [e] at hok
          unfold SM.okd at hok
          simp only [Bool.and_eq_true, decide_eq_true_eq] at hok
          exact SM.gr_step x hG.out htl hok.2.1 hok.2.2 (by omega) (by omega))
        have htl2 : Hid (ok = true → X + 1 ≤ 200 → (SM.txt false x).length ≤ 202000) := Lib.hid (fun e h2 => by
          rw [e] at hok
          unfold SM.okd at hok
          simp only [Bool.and_eq_true, decide_eq_true_eq] at hok
          have := SM.txt_len false x hok.2.1 hok.2.2
          rw [hX] at this
          omega)
        generalize SM.tk l j = out at hI hsn htl hgs ⊢
        have hsn' := Lib.hid hsn
        have hIl2 := Lib.hid hI.lt
        have e8 : Value.slice A8 out.len c8 = .slice A8 j c8 := by rw [htl]
        rw [e8] at hI hIl2
        rw [e8]
        have htl' := Lib.hid htl
        clear hx hsn htl e8 hG hsm hok hX hY hd1
        unfold dtv at hS hC hD hO hW
        have hL := Lies.made wr 24 #[.int .i64 x.k, .int .i64 x.n, .string ⟨x.s.toArray⟩, .slice B x.is.len q]
        have c0 : Below wr.heap.size wr (wr.alloc (.cells #[.int .i64 x.k, .int .i64 x.n, .string ⟨x.s.toArray⟩, .slice B x.is.len q] 24)) := went_alloc _ _
        cases sm
        · go_wp2_with (first
            | (go_at_call 7
               refine (hS.out _ c0).mono ?_
               rintro e w1 ⟨rfl, hb1⟩
               have hM1 := hL.below hb1 hL.lt
               have c1 : Below wr.heap.size wr w1 := c0.trans (hb1.mono c0.size)
               have z0 := hM1.cell 0
               have z1 := hM1.cell 1
               have z2 := hM1.cell 2
               have z3 := hM1.cell 3
               simp only [List.getElem?_cons_succ, List.getElem?_cons_zero] at z0 z1 z2 z3
               clear hb1))
          go_ret
          exact ⟨rfl, hb.trans (c1.mono hb.size)⟩
        · have hzz := hsz rfl
          clear hsz
          by_cases hX2 : X + 1 ≤ 200
          · by_cases hY2 : Y + 1 ≤ 60
            · cases ok
              · unfold chv at hW
                go_wp2_with (first
                  | (go_at_call 7
                     refine (hS.out _ c0).mono ?_
                     rintro e w1 ⟨rfl, hb1⟩
                     have hM1 := hL.below hb1 hL.lt
                     have c1 : Below wr.heap.size wr w1 := c0.trans (hb1.mono c0.size)
                     have z0 := hM1.cell 0
                     have z1 := hM1.cell 1
                     have z2 := hM1.cell 2
                     have z3 := hM1.cell 3
                     simp only [List.getElem?_cons_succ, List.getElem?_cons_zero] at z0 z1 z2 z3
                     clear hb1)
                  | (go_at_call 16
                     refine (hC.out _ c1 (by omega)).mono ?_
                     rintro e w2 ⟨y2, h20, rfl, hb2⟩
                     have hy2 : y2 ≤ 200 := by omega
                     clear h20
                     have hM2 := hM1.below hb2 hM1.lt
                     have c2 : Below wr.heap.size wr w2 := c1.trans (hb2.mono c1.size)
                     have z0 := hM2.cell 0
                     have z1 := hM2.cell 1
                     have z2 := hM2.cell 2
                     have z3 := hM2.cell 3
                     simp only [List.getElem?_cons_succ, List.getElem?_cons_zero] at z0 z1 z2 z3
                     clear hb2)
                  | (go_at_call 17
                     refine (hD.out _ c2).mono ?_
                     rintro e w3 ⟨y3, h30, rfl, hb3⟩
                     have hy3 : y3 ≤ 60 := by omega
                     clear h30
                     have hM3 := hM2.below hb3 hM2.lt
                     have c3 : Below wr.heap.size wr w3 := c2.trans (hb3.mono c2.size)
                     have z0 := hM3.cell 0
                     have z1 := hM3.cell 1
                     have z2 := hM3.cell 2
                     have z3 := hM3.cell 3
                     simp only [List.getElem?_cons_succ, List.getElem?_cons_zero] at z0 z1 z2 z3
                     clear hb3)
                  | (go_at_call 9
                     with_reducible refine (hO.out _ c3 (by omega)).mono ?_
                     rintro e w4 ⟨v4, rfl, hd4, hb4⟩
                     have hi4 := hd4.in_
                     obtain ⟨A4, q4, rfl⟩ := hd4.read
                     have hM4 := hM3.below hb4 hM3.lt
                     have c4 : Below wr.heap.size wr w4 := c3.trans (hb4.mono c3.size)
                     have z0 := hM4.cell 0
                     have z1 := hM4.cell 1
                     have z2 := hM4.cell 2
                     have z3 := hM4.cell 3
                     simp only [List.getElem?_cons_succ, List.getElem?_cons_zero] at z0 z1 z2 z3
                     clear hb4)
                  | (go_at_call 8
                     refine (hW.out _ c4 _ hi4).mono ?_
                     rintro e w5 ⟨rfl, hb5⟩
                     have hM5 := hM4.below hb5 hM4.lt
                     have c5 : Below wr.heap.size wr w5 := c4.trans (hb5.mono c4.size)
                     have z0 := hM5.cell 0
                     have z1 := hM5.cell 1
                     have z2 := hM5.cell 2
                     have z3 := hM5.cell 3
                     simp only [List.getElem?_cons_succ, List.getElem?_cons_zero] at z0 z1 z2 z3
                     clear hb5))
                go_ret
                exact ⟨rfl, hb.trans (c5.mono hb.size)⟩
              · obtain ⟨tf, htf⟩ : ∃ t : ByteArray, ⟨(SM.txt false x).toArray⟩ = t := ⟨_, rfl⟩
                have htx : tf.data.toList = SM.txt false x := by rw [← htf]
                have hfs : tf.size ≤ 202000 := by rw [← size_len, htx]; exact htl2.out rfl hX2
                have hgs' := Lib.hid (hgs.out rfl hY2 hX2)
                rw [if_pos rfl, htf] at hW
                have htx' := Lib.hid htx
                clear htf htx hgs htl2
                unfold chv at hW
                by_cases hj0 : j = 0
                · subst hj0
                  simp only [Nat.zero_mul, Nat.add_zero] at p0 p1 p2 p3
                  go_wp2_with (first
                    | (go_at_call 7
                       refine (hS.out _ c0).mono ?_
                       rintro e w1 ⟨rfl, hb1⟩
                       have hM1 := hL.below hb1 hL.lt
                       have c1 : Below wr.heap.size wr w1 := c0.trans (hb1.mono c0.size)
                       have z0 := hM1.cell 0
                       have z1 := hM1.cell 1
                       have z2 := hM1.cell 2
                       have z3 := hM1.cell 3
                       simp only [List.getElem?_cons_succ, List.getElem?_cons_zero] at z0 z1 z2 z3
                       clear hb1)
                    | (go_at_call 16
                       refine (hC.out _ c1 (by omega)).mono ?_
                       rintro e w2 ⟨y2, h20, rfl, hb2⟩
                       have hy2 : y2 ≤ 200 := by omega
                       clear h20
                       have hM2 := hM1.below hb2 hM1.lt
                       have c2 : Below wr.heap.size wr w2 := c1.trans (hb2.mono c1.size)
                       have z0 := hM2.cell 0
                       have z1 := hM2.cell 1
                       have z2 := hM2.cell 2
                       have z3 := hM2.cell 3
                       simp only [List.getElem?_cons_succ, List.getElem?_cons_zero] at z0 z1 z2 z3
                       clear hb2)
                    | (go_at_call 17
                       refine (hD.out _ c2).mono ?_
                       rintro e w3 ⟨y3, h30, rfl, hb3⟩
                       have hy3 : y3 ≤ 60 := by omega
                       clear h30
                       have hM3 := hM2.below hb3 hM2.lt
                       have c3 : Below wr.heap.size wr w3 := c2.trans (hb3.mono c2.size)
                       have z0 := hM3.cell 0
                       have z1 := hM3.cell 1
                       have z2 := hM3.cell 2
                       have z3 := hM3.cell 3
                       simp only [List.getElem?_cons_succ, List.getElem?_cons_zero] at z0 z1 z2 z3
                       clear hb3)
                    | (go_at_call 9
                       with_reducible refine (hO.out _ c3 (by omega)).mono ?_
                       rintro e w4 ⟨v4, rfl, hd4, hb4⟩
                       have hi4 := hd4.in_
                       obtain ⟨A4, q4, rfl⟩ := hd4.read
                       have hM4 := hM3.below hb4 hM3.lt
                       have c4 : Below wr.heap.size wr w4 := c3.trans (hb4.mono c3.size)
                       have z0 := hM4.cell 0
                       have z1 := hM4.cell 1
                       have z2 := hM4.cell 2
                       have z3 := hM4.cell 3
                       simp only [List.getElem?_cons_succ, List.getElem?_cons_zero] at z0 z1 z2 z3
                       clear hb4)
                    | (go_at_call 8
                       refine (hW.out _ c4 _ hi4).mono ?_
                       rintro e w5 ⟨rfl, hb5⟩
                       have hM5 := hM4.below hb5 hM4.lt
                       have c5 : Below wr.heap.size wr w5 := c4.trans (hb5.mono c4.size)
                       have z0 := hM5.cell 0
                       have z1 := hM5.cell 1
                       have z2 := hM5.cell 2
                       have z3 := hM5.cell 3
                       simp only [List.getElem?_cons_succ, List.getElem?_cons_zero] at z0 z1 z2 z3
                       clear hb5)
                    | (go_at_call 9
                       with_reducible refine (hO.out _ c5 (by omega)).mono ?_
                       rintro e w6 ⟨v6, rfl, hd6, hb6⟩
                       obtain ⟨A6, q6, rfl⟩ := hd6.read
                       have c6 : Below wr.heap.size wr w6 := c5.trans (hb6.mono c5.size)
                       have s6 := c6.size
                       have s5 := c5.size
                       have s0 := hb.size
                       have hI6 := hI.below c6
                       have hone : DatAt w6 (fun g => w.heap.size ≤ g ∧ (Value.slice A8 0 c8).ownBlock ≠ some g) (.one x) [.int .i64 x.k, .int .i64 x.n, .string ⟨x.s.toArray⟩, .slice A6 x.is.len q6] :=
                         DatAt.cell1 (hd6.mono (fun g _ hs => ⟨by omega, fun hh => by have := (hIl2.out _ hh).2; omega⟩))
                       clear hb6 hd6 z0 z1 z2 z3)
                    | (at_builtin
                       have hIl3 := hI6.lt
                       obtain ⟨cs, h1', -, h3⟩ := hI6
                       rw [htl'.out] at h1'
                       refine wpList_append_row (v := .slice A8 0 c8) (x := .slice (some ⟨w6.heap.size, 0, none⟩) 1 1) (.agg #[.int .i64 0, .int .i64 0, .string ⟨#[]⟩, .slice none 0 0]) 56 Tryd.infoDatum rfl (by decide) rfl _ _ 22 rfl Tryd.underlying22 rfl rfl (own_turns h1' ((Turns.refl (fun _ => False) _).alloc _) (fun _ _ h => h)) (own_one (e := 24) (sz := 4) (B := 0) w6 #[.int .i64 x.k, .int .i64 x.n, .string ⟨x.s.toArray⟩, .slice A6 x.is.len q6] rfl (Nat.zero_le _)) (DatAt.one hone) (by omega) (by omega) (by simp) ?_
                       intro v9 w9 hown9 hg9 hat9
                       have T1 := Turns.appendedS hg9
                       have hown9' : w9.ownsRow 0 24 4 v9 (out.len + (RM.Dl.one x).len) (cs ++ [.int .i64 x.k, .int .i64 x.n, .string ⟨x.s.toArray⟩, .slice A6 x.is.len q6]) := by rw [htl'.out]; exact hown9
                       have hI9 : Its w9 (fun g => w.heap.size ≤ g) v9 (out.snoc x) := Its.grew (e := .one x) hIl3 h3 hone ((Turns.refl (fun _ => False) _).alloc _) hown9' hg9 hat9 (fun g _ hs => hs) (by simp; omega)
                       have hb9 : Below w.heap.size w w9 := (((Turns.of_below (hb.trans (c6.mono hb.size)) (fun _ => False)).alloc _).then T1 (fun k hk hh => by have := (hIl3 _ hh).1; omega)).below (Nat.le_refl _) (fun _ h => h.elim)
                       clear hg9 hat9 hown9 hown9' T1 h1' h3 hone))
                  go_roundw
                  case rel => exact ⟨0 + 1, T ++ tf, by omega, by go_num, rfl, Lib.hid (by rw [hsn'.out]; have := hgs'.out; simp only [if_true] at this; simpa [htx'.out] using this), by rw [hsn'.out]; exact hI9, hb9⟩
                  case measure => simp [intOf]; omega
                · go_wp2_with (first
                    | (go_at_call 7
                       refine (hS.out _ c0).mono ?_
                       rintro e w1 ⟨rfl, hb1⟩
                       have hM1 := hL.below hb1 hL.lt
                       have c1 : Below wr.heap.size wr w1 := c0.trans (hb1.mono c0.size)
                       have z0 := hM1.cell 0
                       have z1 := hM1.cell 1
                       have z2 := hM1.cell 2
                       have z3 := hM1.cell 3
                       simp only [List.getElem?_cons_succ, List.getElem?_cons_zero] at z0 z1 z2 z3
                       clear hb1)
                    | (go_at_call 16
                       refine (hC.out _ c1 (by omega)).mono ?_
                       rintro e w2 ⟨y2, h20, rfl, hb2⟩
                       have hy2 : y2 ≤ 200 := by omega
                       clear h20
                       have hM2 := hM1.below hb2 hM1.lt
                       have c2 : Below wr.heap.size wr w2 := c1.trans (hb2.mono c1.size)
                       have z0 := hM2.cell 0
                       have z1 := hM2.cell 1
                       have z2 := hM2.cell 2
                       have z3 := hM2.cell 3
                       simp only [List.getElem?_cons_succ, List.getElem?_cons_zero] at z0 z1 z2 z3
                       clear hb2)
                    | (go_at_call 17
                       refine (hD.out _ c2).mono ?_
                       rintro e w3 ⟨y3, h30, rfl, hb3⟩
                       have hy3 : y3 ≤ 60 := by omega
                       clear h30
                       have hM3 := hM2.below hb3 hM2.lt
                       have c3 : Below wr.heap.size wr w3 := c2.trans (hb3.mono c2.size)
                       have z0 := hM3.cell 0
                       have z1 := hM3.cell 1
                       have z2 := hM3.cell 2
                       have z3 := hM3.cell 3
                       simp only [List.getElem?_cons_succ, List.getElem?_cons_zero] at z0 z1 z2 z3
                       clear hb3)
                    | (go_at_call 9
                       with_reducible refine (hO.out _ c3 (by omega)).mono ?_
                       rintro e w4 ⟨v4, rfl, hd4, hb4⟩
                       have hi4 := hd4.in_
                       obtain ⟨A4, q4, rfl⟩ := hd4.read
                       have hM4 := hM3.below hb4 hM3.lt
                       have c4 : Below wr.heap.size wr w4 := c3.trans (hb4.mono c3.size)
                       have z0 := hM4.cell 0
                       have z1 := hM4.cell 1
                       have z2 := hM4.cell 2
                       have z3 := hM4.cell 3
                       simp only [List.getElem?_cons_succ, List.getElem?_cons_zero] at z0 z1 z2 z3
                       clear hb4)
                    | (go_at_call 8
                       refine (hW.out _ c4 _ hi4).mono ?_
                       rintro e w5 ⟨rfl, hb5⟩
                       have hM5 := hM4.below hb5 hM4.lt
                       have c5 : Below wr.heap.size wr w5 := c4.trans (hb5.mono c4.size)
                       have z0 := hM5.cell 0
                       have z1 := hM5.cell 1
                       have z2 := hM5.cell 2
                       have z3 := hM5.cell 3
                       simp only [List.getElem?_cons_succ, List.getElem?_cons_zero] at z0 z1 z2 z3
                       clear hb5)
                    | (go_at_call 9
                       with_reducible refine (hO.out _ c5 (by omega)).mono ?_
                       rintro e w6 ⟨v6, rfl, hd6, hb6⟩
                       obtain ⟨A6, q6, rfl⟩ := hd6.read
                       have c6 : Below wr.heap.size wr w6 := c5.trans (hb6.mono c5.size)
                       have s6 := c6.size
                       have s5 := c5.size
                       have s0 := hb.size
                       have hI6 := hI.below c6
                       have hone : DatAt w6 (fun g => w.heap.size ≤ g ∧ (Value.slice A8 j c8).ownBlock ≠ some g) (.one x) [.int .i64 x.k, .int .i64 x.n, .string ⟨x.s.toArray⟩, .slice A6 x.is.len q6] :=
                         DatAt.cell1 (hd6.mono (fun g _ hs => ⟨by omega, fun hh => by have := (hIl2.out _ hh).2; omega⟩))
                       clear hb6 hd6 z0 z1 z2 z3)
                    | (at_builtin
                       have hIl3 := hI6.lt
                       obtain ⟨cs, h1', -, h3⟩ := hI6
                       rw [htl'.out] at h1'
                       refine wpList_append_row (v := .slice A8 j c8) (x := .slice (some ⟨w6.heap.size, 0, none⟩) 1 1) (.agg #[.int .i64 0, .int .i64 0, .string ⟨#[]⟩, .slice none 0 0]) 56 Tryd.infoDatum rfl (by decide) rfl _ _ 22 rfl Tryd.underlying22 rfl rfl (own_turns h1' ((Turns.refl (fun _ => False) _).alloc _) (fun _ _ h => h)) (own_one (e := 24) (sz := 4) (B := 0) w6 #[.int .i64 x.k, .int .i64 x.n, .string ⟨x.s.toArray⟩, .slice A6 x.is.len q6] rfl (Nat.zero_le _)) (DatAt.one hone) (by omega) (by omega) (by simp) ?_
                       intro v9 w9 hown9 hg9 hat9
                       have T1 := Turns.appendedS hg9
                       have hown9' : w9.ownsRow 0 24 4 v9 (out.len + (RM.Dl.one x).len) (cs ++ [.int .i64 x.k, .int .i64 x.n, .string ⟨x.s.toArray⟩, .slice A6 x.is.len q6]) := by rw [htl'.out]; exact hown9
                       have hI9 : Its w9 (fun g => w.heap.size ≤ g) v9 (out.snoc x) := Its.grew (e := .one x) hIl3 h3 hone ((Turns.refl (fun _ => False) _).alloc _) hown9' hg9 hat9 (fun g _ hs => hs) (by simp; omega)
                       have hb9 : Below w.heap.size w w9 := (((Turns.of_below (hb.trans (c6.mono hb.size)) (fun _ => False)).alloc _).then T1 (fun k hk hh => by have := (hIl3 _ hh).1; omega)).below (Nat.le_refl _) (fun _ h => h.elim)
                       clear hg9 hat9 hown9 hown9' T1 h1' h3 hone))
                  go_roundw
                  case rel => exact ⟨j + 1, (T ++ ⟨#[32]⟩) ++ tf, by omega, by go_num, rfl, Lib.hid (by rw [hsn'.out]; have := hgs'.out; rw [if_neg hj0] at this; simpa [htx'.out] using this), by rw [hsn'.out]; exact hI9, hb9⟩
                  case measure => simp [intOf]; omega
            · go_wp2_with (first
                | (go_at_call 7
                   refine (hS.out _ c0).mono ?_
                   rintro e w1 ⟨rfl, hb1⟩
                   have hM1 := hL.below hb1 hL.lt
                   have c1 : Below wr.heap.size wr w1 := c0.trans (hb1.mono c0.size)
                   have z0 := hM1.cell 0
                   have z1 := hM1.cell 1
                   have z2 := hM1.cell 2
                   have z3 := hM1.cell 3
                   simp only [List.getElem?_cons_succ, List.getElem?_cons_zero] at z0 z1 z2 z3
                   clear hb1)
                | (go_at_call 16
                   refine (hC.out _ c1 (by omega)).mono ?_
                   rintro e w2 ⟨y2, h20, rfl, hb2⟩
                   have hy2 : y2 ≤ 200 := by omega
                   clear h20
                   have hM2 := hM1.below hb2 hM1.lt
                   have c2 : Below wr.heap.size wr w2 := c1.trans (hb2.mono c1.size)
                   have z0 := hM2.cell 0
                   have z1 := hM2.cell 1
                   have z2 := hM2.cell 2
                   have z3 := hM2.cell 3
                   simp only [List.getElem?_cons_succ, List.getElem?_cons_zero] at z0 z1 z2 z3
                   clear hb2)
                | (go_at_call 17
                   refine (hD.out _ c2).mono ?_
                   rintro e w3 ⟨y3, h30, rfl, hb3⟩
                   have hy3 : 60 < y3 := by omega
                   clear h30
                   have hM3 := hM2.below hb3 hM2.lt
                   have c3 : Below wr.heap.size wr w3 := c2.trans (hb3.mono c2.size)
                   have z0 := hM3.cell 0
                   have z1 := hM3.cell 1
                   have z2 := hM3.cell 2
                   have z3 := hM3.cell 3
                   simp only [List.getElem?_cons_succ, List.getElem?_cons_zero] at z0 z1 z2 z3
                   clear hb3))
              go_ret
              exact ⟨rfl, hb.trans (c3.mono hb.size)⟩
          · go_wp2_with (first
              | (go_at_call 7
                 refine (hS.out _ c0).mono ?_
                 rintro e w1 ⟨rfl, hb1⟩
                 have hM1 := hL.below hb1 hL.lt
                 have c1 : Below wr.heap.size wr w1 := c0.trans (hb1.mono c0.size)
                 have z0 := hM1.cell 0
                 have z1 := hM1.cell 1
                 have z2 := hM1.cell 2
                 have z3 := hM1.cell 3
                 simp only [List.getElem?_cons_succ, List.getElem?_cons_zero] at z0 z1 z2 z3
                 clear hb1)
              | (go_at_call 16
                 refine (hC.out _ c1 (by omega)).mono ?_
                 rintro e w2 ⟨y2, h20, rfl, hb2⟩
                 have hy2 : 200 < y2 := by omega
                 clear h20
                 have hM2 := hM1.below hb2 hM1.lt
                 have c2 : Below wr.heap.size wr w2 := c1.trans (hb2.mono c1.size)
                 have z0 := hM2.cell 0
                 have z1 := hM2.cell 1
                 have z2 := hM2.cell 2
                 have z3 := hM2.cell 3
                 simp only [List.getElem?_cons_succ, List.getElem?_cons_zero] at z0 z1 z2 z3
                 clear hb2))
            go_ret
            exact ⟨rfl, hb.trans (c2.mono hb.size)⟩
      · obtain rfl : j = N := by omega
        have hall : SM.tk l j = l := by rw [← hN'.out]; exact SM.tk_all l
        rw [hall] at hI hG htl ⊢
        have hd := hI.dat.in_
        rw [htl] at hd ⊢
        have hW := Lib.hid (write_any ⟨6, 0, [], l⟩ wr (.slice A8 j c8) hd (hT'.out.on hb))
        unfold dtv at hW
        rcases SM.gr_end hG.out with ⟨hok, htx⟩ | ⟨hok, h15⟩
        · obtain ⟨tf, htf⟩ : ∃ t : ByteArray, ⟨(SM.txt false ⟨6, 0, [], l⟩).toArray⟩ = t := ⟨_, rfl⟩
          rw [hok, if_pos rfl, htf] at hW
          have htf' : tf = T ++ ⟨#[41]⟩ := ba_ext (by rw [← htf, htx]; simp)
          subst htf'
          unfold chv at hW
          clear htf htx hok hG
          go_wp2_with (go_at_call 8; refine hW.out.mono ?_; rintro e w5 ⟨rfl, hb5⟩)
          go_ret
          exact ⟨ret_b (by simp), hb.trans (hb5.mono hb.size)⟩
        · rw [hok] at hW
          unfold chv at hW
          clear hok hG
          go_wp2_with (go_at_call 8; refine hW.out.mono ?_; rintro e w5 ⟨rfl, hb5⟩)
          go_ret
          exact ⟨ret_b (by simp), hb.trans (hb5.mono hb.size)⟩
  · go_enter Tryd.func5, Tryd.ntmps5
    go_wp2_with (first
      | (go_at_call 6; (with_reducible refine (hA.out _ (Below.refl _ _)).mono ?_); rintro e w1 ⟨rfl, b1⟩; have b1 : Below w.heap.size w w1 := b1)
      | (go_at_call 6; with_reducible refine (hA.out _ b1).mono ?_; rintro e w2 ⟨rfl, b2⟩))
    go_ret
    exact ⟨rfl, b1.trans (Below.mono b2 b1.size)⟩
end Go.Proofs.YtfkmknehoonlcaaDoor
