/- Write and Display. -/
import Derived.Test.YtfkmknehoonlcaaDoorShowDatum
namespace Go.Proofs.YtfkmknehoonlcaaDoor
open Go.ChangeShapes Go.WideShapes Go.ChangeAt Go.RowKit

/-! ### Write and Display -/
set_option maxRecDepth 100000 in
set_option maxHeartbeats 4000000 in
theorem showtext_any (x : RM.Dm) (w : World) (u : Value) (b : Bool) (h : In w u x.is) (hT : Tab w) :
    Calls Tryd.prog 18 #[dtv x u, .bool b] w fun e w' => e = .returned (.tuple #[.string ⟨(if SM.okd x then SM.txt b x else []).toArray⟩, chv (SM.okd x)]) ∧ Went w w' := by
  obtain ⟨A, c, rfl⟩ := h.read
  have hC := Lib.hid (fun (w' : World) (hb : Below w.heap.size w w') => check_any x w' (.slice A x.is.len c) (h.below hb))
  have hD := Lib.hid (fun hk hr w' v B p l => dt_any x w w' (.slice A x.is.len c) v B p l b h hk hr hT)
  cases hok : SM.okd x
  · rw [hok] at hC
    have hok' := Lib.hid hok
    clear hok hD hT h
    unfold dtv at hC ⊢
    obtain ⟨N, hN⟩ : ∃ N, x.is.len = N := ⟨_, rfl⟩
    rw [hN] at hC ⊢
    clear hN
    have hb0 : Below w.heap.size w (w.alloc (.cells #[.int .i64 x.k, .int .i64 x.n, .string ⟨x.s.toArray⟩, .slice A N c] 24)) := went_alloc _ _
    unfold chv at hC ⊢
    go_enter Tryd.func18, Tryd.ntmps18
    go_wp2_with (go_at_call 26; refine (hC.out _ hb0).mono ?_; rintro e w5 ⟨rfl, hb5⟩)
    go_ret2
    exact ⟨rfl, hb0.trans (hb5.mono hb0.size)⟩
  · rw [hok] at hC
    have hz : SM.sz x.is + 1 ≤ 4000 ∧ SM.kd x.k x.n x.s x.is = true ∧ SM.rgt x.is = true := by
      unfold SM.okd at hok
      simp only [Bool.and_eq_true, decide_eq_true_eq] at hok
      exact ⟨hok.1.1, hok.2.1, hok.2.2⟩
    have hD' := Lib.hid (fun w' v B p l => hD.out hz.2.1 hz.2.2 w' v B p l)
    have hzz := hz.1
    obtain ⟨t, ht⟩ : ∃ t, SM.txt b x = t := ⟨_, rfl⟩
    obtain ⟨Z, hZ⟩ : ∃ Z, SM.sz x.is = Z := ⟨_, rfl⟩
    rw [hZ] at hD' hzz
    rw [ht] at hD'
    rw [if_pos rfl, ht]
    clear hok hD hT h hz ht hZ
    unfold dtv at hC hD' ⊢
    obtain ⟨N, hN⟩ : ∃ N, x.is.len = N := ⟨_, rfl⟩
    rw [hN] at hC hD' ⊢
    clear hN
    have hL := Lies.made w 24 #[.int .i64 x.k, .int .i64 x.n, .string ⟨x.s.toArray⟩, .slice A N c]
    have hb0 : Below w.heap.size w (w.alloc (.cells #[.int .i64 x.k, .int .i64 x.n, .string ⟨x.s.toArray⟩, .slice A N c] 24)) := went_alloc _ _
    unfold chv at hC ⊢
    go_enter Tryd.func18, Tryd.ntmps18
    go_wp2_with (first
      | (go_at_call 26
         refine (hC.out _ hb0).mono ?_
         rintro e w5 ⟨rfl, hb5⟩
         have hb6 : Below w.heap.size w w5 := hb0.trans (hb5.mono hb0.size)
         have hM := (hL.below hb5 hL.lt).alloc (.cells #[.slice none 0 0, .bool b] 52)
         have hM0 := hL.below hb5 hL.lt
         have hb7 : Below w.heap.size w (w5.alloc (.cells #[.slice none 0 0, .bool b] 52)) := hb6.alloc hb6.size _
         have hW : Wr (w5.alloc (.cells #[.slice none 0 0, .bool b] 52)) w5.heap.size w5.heap.size (.slice none 0 0) [] b := ⟨Nat.le_refl _, Lies.made _ _ _, OwnB.none_ _ _⟩
         have z0 := hM0.cell 0
         have z1 := hM0.cell 1
         have z2 := hM0.cell 2
         have z3 := hM0.cell 3
         simp only [List.getElem?_cons_succ, List.getElem?_cons_zero] at z0 z1 z2 z3
         have hz5 := hM0.lt
         have hs6 := hb6.size)
      | (go_at_call 27
         refine (hD'.out _ (.slice none 0 0) w5.heap.size w5.heap.size [] hb6.size hb7 hW (by simp; omega)).mono ?_
         rintro e w8 ⟨rfl, ⟨v8, hW8⟩, hc8⟩
         have hcv := hW8.2.2.conv
         have q0 := hW8.2.1.cell 0
         simp only [List.getElem?_cons_zero] at q0
         have hb8 := hb7.trans ((hc8.below (Nat.le_refl _) (by simp)).mono hb6.size)))
    go_ret2
    exact ⟨rfl, hb8⟩
theorem write_any (x : RM.Dm) (w : World) (u : Value) (h : In w u x.is) (hT : Tab w) :
    Calls Tryd.prog 8 #[dtv x u] w fun e w' => e = .returned (.tuple #[.string ⟨(if SM.okd x then SM.txt false x else []).toArray⟩, chv (SM.okd x)]) ∧ Went w w' := by
  have hC := Lib.hid (fun (w' : World) (hb : Below w.heap.size w w') => showtext_any x w' u false (h.below hb) (hT.on hb))
  obtain ⟨A, c, rfl⟩ := h.read
  generalize (⟨(if SM.okd x then SM.txt false x else []).toArray⟩ : ByteArray) = t at hC ⊢
  obtain ⟨N, hN⟩ : ∃ N, x.is.len = N := ⟨_, rfl⟩
  unfold dtv at hC ⊢
  rw [hN] at hC ⊢
  clear hN h
  have hb0 : Below w.heap.size w (w.alloc (.cells #[.int .i64 x.k, .int .i64 x.n, .string ⟨x.s.toArray⟩, .slice A N c] 24)) := went_alloc _ _
  obtain ⟨ok, hok⟩ : ∃ ok, SM.okd x = ok := ⟨_, rfl⟩
  rw [hok] at hC ⊢
  clear hok
  cases ok
  all_goals
    unfold chv at hC ⊢
    go_enter Tryd.func8, Tryd.ntmps8
    go_wp2_with (go_at_call 18; refine (hC.out _ hb0).mono ?_; rintro e w5 ⟨rfl, hb5⟩)
    go_ret2
    exact ⟨rfl, hb0.trans (hb5.mono hb0.size)⟩
theorem display_any (x : RM.Dm) (w : World) (u : Value) (h : In w u x.is) (hT : Tab w) :
    Calls Tryd.prog 10 #[dtv x u] w fun e w' => e = .returned (.tuple #[.string ⟨(if SM.okd x then SM.txt true x else []).toArray⟩, chv (SM.okd x)]) ∧ Went w w' := by
  have hC := Lib.hid (fun (w' : World) (hb : Below w.heap.size w w') => showtext_any x w' u true (h.below hb) (hT.on hb))
  obtain ⟨A, c, rfl⟩ := h.read
  generalize (⟨(if SM.okd x then SM.txt true x else []).toArray⟩ : ByteArray) = t at hC ⊢
  obtain ⟨N, hN⟩ : ∃ N, x.is.len = N := ⟨_, rfl⟩
  unfold dtv at hC ⊢
  rw [hN] at hC ⊢
  clear hN h
  have hb0 : Below w.heap.size w (w.alloc (.cells #[.int .i64 x.k, .int .i64 x.n, .string ⟨x.s.toArray⟩, .slice A N c] 24)) := went_alloc _ _
  obtain ⟨ok, hok⟩ : ∃ ok, SM.okd x = ok := ⟨_, rfl⟩
  rw [hok] at hC ⊢
  clear hok
  cases ok
  all_goals
    unfold chv at hC ⊢
    go_enter Tryd.func10, Tryd.ntmps10
    go_wp2_with (go_at_call 18; refine (hC.out _ hb0).mono ?_; rintro e w5 ⟨rfl, hb5⟩)
    go_ret2
    exact ⟨rfl, hb0.trans (hb5.mono hb0.size)⟩
end Go.Proofs.YtfkmknehoonlcaaDoor
