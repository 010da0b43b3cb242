/- Increments. -/
import Derived.Test.YtfogfafanfiffaaGreatDoorQ23
namespace Go.Proofs.YtfogfafanfiffaaGreatDoor
open Go.ChangeShapes Go.WideShapes Go.ChangeAt Go.RowKit

section
variable {B : Int} {G : Geo} {H : Hp} {R : Nat → List Int} {q p b : Nat}

theorem inc_flip (i : Inv B G H R) (hm : H.mrk = false) (w : World) (h : Tr w q p b G H) :
    Calls Tryz.prog 33 #[.pointer (some ⟨q, 0, none⟩)] w fun e w' => e = .returned (.tuple #[]) ∧ Tr w' q p b G (H.inc G) ∧ Turns (Own3 q p b) w w' := by
  have c8 : w.cell? ⟨q, 20, none⟩ = some (.bool H.mrk) := h.here.cell 20
  have FF := Lib.hid (flip_any i hm w h)
  rw [show H.inc G = H.flip G by rw [Hp.inc, hm]; rfl]
  rw [hm] at c8
  clear hm h i
  go_enter Tryz.func33, Tryz.ntmps33
  go_wp2_with (go_at_call 64; refine FF.out.mono ?_; rintro e w2 ⟨rfl, hs2, ht2⟩)
  refine bodyPost_ret (results_none rfl _ _ _) rfl ?_
  exact ⟨rfl, hs2, ht2⟩

theorem inc_end (i : Inv B G H R) (hm : H.mrk = true) (hf : gv H.ws (hd 12 + 2) = hd 12) (w : World) (h : Tr w q p b G H) :
    Calls Tryz.prog 33 #[.pointer (some ⟨q, 0, none⟩)] w fun e w' => e = .returned (.tuple #[]) ∧ Tr w' q p b G (H.inc G) ∧ Turns (Own3 q p b) w w' := by
  have c8 : w.cell? ⟨q, 20, none⟩ = some (.bool H.mrk) := h.here.cell 20
  have c0 := h.ptr
  have mh : Mem G.C (hd 12) := .inl ⟨12, by omega, rfl⟩
  have BB := Lib.hid (fun w1 h1 => hf ▸ ring_Behind p b H.ws (hd 12) w1 h1 i.short (mh.pl i.plc) (hf.symm ▸ mh.pl i.plc))
  have EE := Lib.hid (fun w1 (h1 : Tr w1 q p b G H) => end_any i hm w1 h1)
  have HD : Hid (∀ w, Calls Tryz.prog 44 #[.int .i64 12] w fun e w' => e = .returned (.int .i64 (hd 12)) ∧ w = w') := fun w => head_any 12 (by omega) w
  rw [show H.inc G = H.end_ by rw [Hp.inc, hm, if_pos rfl, if_pos hf]]
  rw [hm] at c8
  have T1 := Lib.hid (fun w1 (k1 : Turns (· = p) w w1) s1 => h.stored' k1 s1)
  have hs := Lib.hid h
  clear hm h i hf mh
  generalize hd 12 = d at *
  go_enter Tryz.func33, Tryz.ntmps33
  go_wp2_with fail
  go_region_held3 (fun w' => w'.cell? ⟨q, 0, none⟩ = some (.pointer (some ⟨p, 0, none⟩))) (first | go_keep | exact c2)
    (first
      | (go_at_call 44
         refine (HD.out _).mono ?_
         rintro e w2 ⟨rfl, rfl⟩)
      | (go_at_call 43
         refine (BB.out _ hs.out.words.drew).mono ?_
         rintro e w2 ⟨rfl, hs2, ht2⟩
         have c2 := (T1.out w2 ht2.of_drew hs2).ptr))
  have hs3 := T1.out w2 ht2.of_drew hs2
  have ht3 := own_of_p (q := q) (b := b) ht2.of_drew
  clear c2 hs2 ht2 T1 hs
  go_wp2_with (first
    | (go_at_call 44
       refine (HD.out _).mono ?_
       rintro e w2 ⟨rfl, rfl⟩)
    | (go_at_call 65; refine (EE.out _ hs3).mono ?_; rintro e w4 ⟨rfl, hs4, ht4⟩))
  refine bodyPost_ret (results_none rfl _ _ _) rfl ?_
  exact ⟨rfl, hs4, ht3.trans ht4⟩

theorem inc_task (i : Inv B G H R) (hB : B + 1 ≤ 1000000000) (hm : H.mrk = true) (x : Int) (hx : x ∈ R 12) (hf : gv H.ws (hd 12 + 2) = x) (hne : x ≠ hd 12) (w : World) (h : Tr w q p b G H) :
    Calls Tryz.prog 33 #[.pointer (some ⟨q, 0, none⟩)] w fun e w' => e = .returned (.tuple #[]) ∧ Tr w' q p b G (H.inc G) ∧ Turns (Own3 q p b) w w' := by
  have c8 : w.cell? ⟨q, 20, none⟩ = some (.bool H.mrk) := h.here.cell 20
  have c0 := h.ptr
  have mh : Mem G.C (hd 12) := .inl ⟨12, by omega, rfl⟩
  have hC := i.rg.place 12 (by omega) x hx
  have mx : Mem G.C x := .inr hC
  have hr := i.wrd x
  have BB := Lib.hid (fun w1 h1 => hf ▸ ring_Behind p b H.ws (hd 12) w1 h1 i.short (mh.pl i.plc) (hf.symm ▸ mx.pl i.plc))
  have MM := Lib.hid (fun w1 (h1 : Tr w1 q p b G H) => mark_any x w1 h1 (i.into hC))
  have TK := Lib.hid (fun w => task_any (gv H.ws x) hr.1 hr.2 w)
  have HD : Hid (∀ w, Calls Tryz.prog 44 #[.int .i64 12] w fun e w' => e = .returned (.int .i64 (hd 12)) ∧ w = w') := fun w => head_any 12 (by omega) w
  have SC := Lib.hid (fun ht w1 (h1 : Tr w1 q p b G H) => scan_any i x hx ht w1 h1)
  have LK := Lib.hid (fun ht w1 (h1 : Tr w1 q p b G H) => look_any i hB x hx ht w1 h1)
  have hk := (i.mem12 hx).2
  have E1 : Hid (mtask (gv H.ws x) = 1 → H.inc G = H.scan G x (gv H.ws x)) := fun ht => by rw [Hp.inc, hm, if_pos rfl, hf, if_neg hne, if_pos ht]
  have E2 : Hid (mtask (gv H.ws x) = 2 → H.inc G = H.look G x (gv H.ws x)) := fun ht => by rw [Hp.inc, hm, if_pos rfl, hf, if_neg hne, if_neg (by omega), if_pos ht]
  have hxd : (x == hd 12) = false := by simpa using hne
  rw [hm] at c8
  have T1 := Lib.hid (fun w1 (k1 : Turns (· = p) w w1) s1 => h.stored' k1 s1)
  have hs := Lib.hid h
  clear hm h i hf mh hne hx hC mx hr
  generalize gv H.ws x = m at *
  generalize hd 12 = d at *
  rcases hk with hk | hk
  · have SC1 := Lib.hid (SC.out hk)
    rw [E1.out hk]
    rw [hk] at TK
    clear SC LK E1 E2 hk
    generalize H.scan G x m = H2 at *
    go_enter Tryz.func33, Tryz.ntmps33
    go_wp2_with fail
    go_region_held3 (fun w' => w'.cell? ⟨q, 0, none⟩ = some (.pointer (some ⟨p, 0, none⟩))) (first | go_keep | exact c2)
      (first
        | (go_at_call 44
           refine (HD.out _).mono ?_
           rintro e w2 ⟨rfl, rfl⟩)
        | (go_at_call 43
           refine (BB.out _ hs.out.words.drew).mono ?_
           rintro e w2 ⟨rfl, hs2, ht2⟩
           have c2 := (T1.out w2 ht2.of_drew hs2).ptr))
    have hs3 := T1.out w2 ht2.of_drew hs2
    have ht3 := own_of_p (q := q) (b := b) ht2.of_drew
    clear c2 hs2 ht2 T1 hs
    go_wp2_with (first
      | (go_at_call 44
         refine (HD.out _).mono ?_
         rintro e w2 ⟨rfl, rfl⟩)
      | (go_at_call 66; refine (MM.out _ hs3).mono ?_; rintro e w4 ⟨rfl, hs4, ht4⟩)
      | (go_at_call 67; refine (TK.out _).mono ?_; rintro e w' ⟨rfl, rfl⟩)
      | (go_at_call 68; refine (SC1.out _ hs4).mono ?_; rintro e w5 ⟨rfl, hs5, ht5⟩))
    go_end0
    exact ⟨rfl, hs5, ht3.trans ((own_of_p ht4).trans ht5)⟩
  · have LK1 := Lib.hid (LK.out hk)
    rw [E2.out hk]
    rw [hk] at TK
    clear SC LK E1 E2 hk
    generalize H.look G x m = H2 at *
    go_enter Tryz.func33, Tryz.ntmps33
    go_wp2_with fail
    go_region_held3 (fun w' => w'.cell? ⟨q, 0, none⟩ = some (.pointer (some ⟨p, 0, none⟩))) (first | go_keep | exact c2)
      (first
        | (go_at_call 44
           refine (HD.out _).mono ?_
           rintro e w2 ⟨rfl, rfl⟩)
        | (go_at_call 43
           refine (BB.out _ hs.out.words.drew).mono ?_
           rintro e w2 ⟨rfl, hs2, ht2⟩
           have c2 := (T1.out w2 ht2.of_drew hs2).ptr))
    have hs3 := T1.out w2 ht2.of_drew hs2
    have ht3 := own_of_p (q := q) (b := b) ht2.of_drew
    clear c2 hs2 ht2 T1 hs
    go_wp2_with (first
      | (go_at_call 44
         refine (HD.out _).mono ?_
         rintro e w2 ⟨rfl, rfl⟩)
      | (go_at_call 66; refine (MM.out _ hs3).mono ?_; rintro e w4 ⟨rfl, hs4, ht4⟩)
      | (go_at_call 67; refine (TK.out _).mono ?_; rintro e w' ⟨rfl, rfl⟩)
      | (go_at_call 69; refine (LK1.out _ hs4).mono ?_; rintro e w5 ⟨rfl, hs5, ht5⟩))
    go_end0
    exact ⟨rfl, hs5, ht3.trans ((own_of_p ht4).trans ht5)⟩

theorem inc_any (i : Inv B G H R) (hB : B + 1 ≤ 1000000000) (w : World) (h : Tr w q p b G H) :
    Calls Tryz.prog 33 #[.pointer (some ⟨q, 0, none⟩)] w fun e w' => e = .returned (.tuple #[]) ∧ Tr w' q p b G (H.inc G) ∧ Turns (Own3 q p b) w w' := by
  cases hm : H.mrk
  · exact inc_flip i hm w h
  · rcases i.first with ⟨-, hf⟩ | ⟨x, l, h12, hf, hne⟩
    · exact inc_end i hm hf w h
    · exact inc_task i hB hm x (by rw [h12]; simp) hf hne w h

/-- So many increments: none below 1. -/
theorem incs_any (i : Inv B G H R) (n : Int) (hn : n ≤ 1000000000) (hB : B + n.toNat ≤ 1000000000) (w : World) (h : Tr w q p b G H) :
    Calls Tryz.prog 12 #[.pointer (some ⟨q, 0, none⟩), .int .i64 n] w fun e w' => e = .returned (.tuple #[]) ∧ Tr w' q p b G (H.incs G n.toNat) ∧ Turns (Own3 q p b) w w' := by
  have II := Lib.hid (fun (j : Nat) (hj : j < n.toNat) w1 (h1 : Tr w1 q p b G (H.incs G j)) => inc_any (inv_incs i j (by omega)) (by omega) w1 h1)
  have IS : Hid (∀ j : Nat, H.incs G (j + 1) = (H.incs G j).inc G) := fun j => rfl
  have T0 : Tr w q p b G (H.incs G 0) := h
  clear h i hB
  generalize H.incs G = S at *
  go_enter Tryz.func12, Tryz.ntmps12
  go_wp2_with fail
  go_loopw [7] (fun c wr => ∃ j : Nat, j ≤ n.toNat ∧ c = .int .i64 j ∧ Tr wr q p b G (S j) ∧ Turns (Own3 q p b) w wr) (fun c _ => n.toNat - (intOf c).toNat)
  case atStart => exact ⟨0, by omega, rfl, T0, Turns.refl _ _⟩
  case round =>
    obtain ⟨j, hj, rfl, hs, hts⟩ := hrel
    by_cases hjn : (j : Int) < n
    · have IJ := Lib.hid (II.out j (by omega))
      have UJ : Hid (S (j + 1) = (S j).inc G) := IS.out j
      go_wp2_with (go_at_call 33; refine (IJ.out _ hs).mono ?_; rintro e w2 ⟨rfl, hs2, ht2⟩)
      go_roundw
      case rel => exact ⟨j + 1, by omega, by go_num, by rw [UJ.out]; exact hs2, hts.trans ht2⟩
      case measure => simp [intOf]; omega
    · have hs' : Hid (Tr wr q p b G (S n.toNat)) := by
        have : n.toNat = j := by omega
        rw [this]
        exact hs
      go_wp2_with fail
      go_end0
      exact ⟨rfl, hs'.out, hts⟩
theorem incs_nil (n : Int) (w : World) :
    Calls Tryz.prog 12 #[.pointer none, .int .i64 n] w fun e w' => e = .returned (.tuple #[]) ∧ w = w' := by
  go_enter Tryz.func12, Tryz.ntmps12
  go_wp2_with fail
  refine bodyPost_ret (results_none rfl _ _ _) rfl ?_
  exact ⟨rfl, rfl⟩
end
end Go.Proofs.YtfogfafanfiffaaGreatDoor
