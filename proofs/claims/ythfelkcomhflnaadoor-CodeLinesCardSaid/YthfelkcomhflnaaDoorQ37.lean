/- What the writer puts of any right datum; Write and Display. -/
import Derived.Test.YthfelkcomhflnaaDoorQ36
namespace Go.Proofs.YthfelkcomhflnaaDoor
open Go.ChangeShapes Go.WideShapes Go.ChangeAt Go.RowKit

set_option maxRecDepth 100000 in
set_option maxHeartbeats 8000000 in
theorem dt_step (k n : Int) (s : List UInt8) (is : RM.Dl) (hP : ∀ i x, is.at_ i = some x → DtOk x) : DtOk ⟨k, n, s, is⟩ := by
  intro W0 w u v B p l b h1 hkd hrg hT0 hB0 hb0 hW0 hlz
  have hRow := fun hk w' v' l' => row_any k n s is hP hk W0 w' u v' B p l' b h1 hkd hrg hT0 hB0
  obtain ⟨A1, c1, rfl⟩ := h1.read
  have hlen := h1.len
  obtain ⟨hBp, hpw⟩ := hW0.lt
  have htx : SM.txt b ⟨k, n, s, is⟩ = SM.one b k n s (SM.tl b (decide (k = 7)) true is) := rfl
  rw [htx]
  clear htx hP
  simp only at h1 hkd hrg hlz hRow hlen
  unfold dtv
  simp only
  obtain ⟨S, hS⟩ : ∃ S : ByteArray, ⟨s.toArray⟩ = S := ⟨_, rfl⟩
  have hSs : Hid (S.data.toList = s) := Lib.hid (by rw [← hS])
  obtain ⟨N, hN⟩ : ∃ N, is.len = N := ⟨_, rfl⟩
  obtain ⟨Z, hZ⟩ : ∃ Z, SM.sz is = Z := ⟨_, rfl⟩
  rw [hS, hN, hZ] at hRow
  rw [hS]
  rw [hN] at h1 hlen ⊢
  rw [hZ] at hlz
  have hk8 := SM.kd_kind hkd
  have hSz : (k = 4 ∨ k = 5) → S.size ≤ 500 := fun h => by
    have := SM.kd_short hkd (by omega) (by omega)
    rwa [← hSs.out, size_len] at this
  have hSz' := Lib.hid hSz
  have hRow' := Lib.hid hRow
  have hT0' := Lib.hid hT0
  have hPut := Lib.hid (fun w' v' l' t => put_any w' B p v' l' t b)
  have hL := Lies.made w 42 #[.int .i64 k, .int .i64 n, .string S, .slice A1 N c1]
  have hWa := hW0.alloc (.cells #[.int .i64 k, .int .i64 n, .string S, .slice A1 N c1] 42)
  have hba : Below W0.heap.size W0 (w.alloc (.cells #[.int .i64 k, .int .i64 n, .string S, .slice A1 N c1] 42)) := hb0.alloc hb0.size _
  have y1 : w.cell? ⟨p, 1, none⟩ = some (.bool b) := hW0.2.1.cell 1
  clear hS hN hZ hRow hSz hT0 hrg h1
  rcases hk8 with rfl | rfl | rfl | rfl | rfl | rfl | rfl | rfl
  · have hn := SM.kd_n1 hkd
    have hR := Lib.hid (fun w' (hb' : Below W0.heap.size W0 w') => text_any n (by omega) (by omega) w' ((hT0'.out).on hb'))
    have hil := Lib.itoa_length_le n (by omega) (by omega)
    have hon : Hid (SM.one b 1 n s (SM.tl b (decide ((1 : Int) = 7)) true is) = Lib.itoa n) := Lib.hid rfl
    rw [hon.out]
    clear hkd
    go_enter Tryd.func71, Tryd.ntmps71
    go_wp2_with (first
      | (go_at_call 33; refine (hR.out _ hba).mono ?_; rintro e w5 ⟨rfl, hb5⟩)
      | (go_at_call 82; refine (hPut.out _ v l (Lib.itoa n) (hWa.below hb5) (by omega)).mono ?_; rintro e w6 ⟨rfl, hW6, hc6⟩))
    go_end0
    exact ⟨rfl, hW6, Ch.of_alloc ((Ch.of_below hb5).trans hc6)⟩
  · have hn := SM.kd_n2 hkd
    have hR := Lib.hid (truth_any n)
    have hon : Hid (SM.one b 2 n s (SM.tl b (decide ((2 : Int) = 7)) true is) = (if n = 0 then [35, 102] else [35, 116])) := Lib.hid rfl
    rw [hon.out]
    obtain ⟨t, ht⟩ : ∃ t : List UInt8, (if n = 0 then [35, 102] else [35, 116]) = t := ⟨_, rfl⟩
    have htl : t.length = 2 := by rw [← ht]; split <;> rfl
    rw [ht] at hR ⊢
    clear hkd ht
    go_enter Tryd.func71, Tryd.ntmps71
    go_wp2_with (first
      | (go_at_call 83; refine (hR.out _).mono ?_; rintro e w5 ⟨rfl, hb5⟩)
      | (go_at_call 82; refine (hPut.out _ v l t (hWa.below hb5) (by omega)).mono ?_; rintro e w6 ⟨rfl, hW6, hc6⟩))
    go_end0
    exact ⟨rfl, hW6, Ch.of_alloc ((Ch.of_below hb5).trans hc6)⟩
  · have hn := SM.kd_n3 hkd
    have hR := Lib.hid (char_any _ B p v l b n hWa (by omega) hn.1 hn.2)
    have hon : Hid (SM.one b 3 n s (SM.tl b (decide ((3 : Int) = 7)) true is) = (if b then [UInt8.ofNat n.toNat] else SM.chr n)) := Lib.hid rfl
    rw [hon.out]
    obtain ⟨t, ht⟩ : ∃ t : List UInt8, (if b then [UInt8.ofNat n.toNat] else SM.chr n) = t := ⟨_, rfl⟩
    rw [ht] at hR ⊢
    clear hkd ht
    go_enter Tryd.func71, Tryd.ntmps71
    go_wp2_with (go_at_call 84; refine (hR.out).mono ?_; rintro e w5 ⟨rfl, hW6, hc6⟩)
    go_end0
    exact ⟨rfl, hW6, Ch.of_alloc hc6⟩
  · have hS5 := hSz'.out (.inl rfl)
    clear hkd
    have y1' : (w.alloc (.cells #[.int .i64 4, .int .i64 n, .string S, .slice A1 N c1] 42)).cell? ⟨p, 1, none⟩ = some (.bool b) := hWa.2.1.cell 1
    cases b
    · have hR := Lib.hid (quoted_any _ B p v l false S hWa (by omega) hS5)
      have hon : Hid (SM.one false 4 n s (SM.tl false (decide ((4 : Int) = 7)) true is) = SM.quo S.data.toList) := Lib.hid (by rw [hSs.out]; rfl)
      rw [hon.out]
      go_enter Tryd.func71, Tryd.ntmps71
      go_wp2_with (go_at_call 85; refine (hR.out).mono ?_; rintro e w5 ⟨rfl, hW6, hc6⟩)
      exact bodyPost_ret (v := .tuple #[]) (by simp [results, Tryd.results71, go_sem]) rfl ⟨rfl, hW6, Ch.of_alloc hc6⟩
    · have hR := Lib.hid (put_any _ B p v l S.data.toList true hWa (by rw [size_len]; omega))
      have hon : Hid (SM.one true 4 n s (SM.tl true (decide ((4 : Int) = 7)) true is) = S.data.toList) := Lib.hid (by rw [hSs.out]; rfl)
      rw [hon.out]
      rw [show (⟨S.data.toList.toArray⟩ : ByteArray) = S from by cases S; rfl] at hR
      go_enter Tryd.func71, Tryd.ntmps71
      go_wp2_with (go_at_call 82; refine (hR.out).mono ?_; rintro e w5 ⟨rfl, hW6, hc6⟩)
      go_end0
      exact ⟨rfl, hW6, Ch.of_alloc hc6⟩
  · have hS5 := hSz'.out (.inr rfl)
    clear hkd
    have hR := Lib.hid (put_any _ B p v l S.data.toList b hWa (by rw [size_len]; omega))
    have hon : Hid (SM.one b 5 n s (SM.tl b (decide ((5 : Int) = 7)) true is) = S.data.toList) := Lib.hid (by rw [hSs.out]; rfl)
    rw [hon.out]
    rw [show (⟨S.data.toList.toArray⟩ : ByteArray) = S from by cases S; rfl] at hR
    go_enter Tryd.func71, Tryd.ntmps71
    go_wp2_with (go_at_call 82; refine (hR.out).mono ?_; rintro e w5 ⟨rfl, hW6, hc6⟩)
    go_end0
    exact ⟨rfl, hW6, Ch.of_alloc hc6⟩
  · clear hkd
    have hR := Lib.hid (hRow'.out (.inl rfl) _ v l hba hWa (by omega))
    have hon : Hid (SM.one b 6 n s (SM.tl b (decide ((6 : Int) = 7)) true is) = 40 :: (SM.tl b (decide ((6 : Int) = 7)) true is ++ [41])) := Lib.hid rfl
    rw [hon.out]
    obtain ⟨t, ht⟩ : ∃ t : List UInt8, 40 :: (SM.tl b (decide ((6 : Int) = 7)) true is ++ [41]) = t := ⟨_, rfl⟩
    rw [ht] at hR ⊢
    clear ht
    go_enter Tryd.func71, Tryd.ntmps71
    go_wp2_with (go_at_call 86; refine (hR.out).mono ?_; rintro e w5 ⟨rfl, hW6, hc6⟩)
    go_end0
    exact ⟨rfl, hW6, Ch.of_alloc hc6⟩
  · clear hkd
    have hR := Lib.hid (hRow'.out (.inr (.inl rfl)) _ v l hba hWa (by omega))
    have hon : Hid (SM.one b 7 n s (SM.tl b (decide ((7 : Int) = 7)) true is) = 40 :: (SM.tl b (decide ((7 : Int) = 7)) true is ++ [41])) := Lib.hid rfl
    rw [hon.out]
    obtain ⟨t, ht⟩ : ∃ t : List UInt8, 40 :: (SM.tl b (decide ((7 : Int) = 7)) true is ++ [41]) = t := ⟨_, rfl⟩
    rw [ht] at hR ⊢
    clear ht
    go_enter Tryd.func71, Tryd.ntmps71
    go_wp2_with (go_at_call 86; refine (hR.out).mono ?_; rintro e w5 ⟨rfl, hW6, hc6⟩)
    go_end0
    exact ⟨rfl, hW6, Ch.of_alloc hc6⟩
  · clear hkd
    have hR := Lib.hid (fun w' v' => hRow'.out (.inr (.inr rfl)) w' v' (l ++ [35]))
    have hon : Hid (SM.one b 8 n s (SM.tl b (decide ((8 : Int) = 7)) true is) = 35 :: 40 :: (SM.tl b (decide ((8 : Int) = 7)) true is ++ [41])) := Lib.hid rfl
    rw [hon.out]
    obtain ⟨t, ht⟩ : ∃ t : List UInt8, 40 :: (SM.tl b (decide ((8 : Int) = 7)) true is ++ [41]) = t := ⟨_, rfl⟩
    rw [ht] at hR ⊢
    clear ht
    go_enter Tryd.func71, Tryd.ntmps71
    go_wp2_with (first
      | (go_at_call 82
         refine (hPut.out _ v l [35] hWa (by simp; omega)).mono ?_
         rintro e w5 ⟨rfl, ⟨v5, hW5⟩, hc5⟩
         have hM5 := hL.ch (by decide) (by omega) hc5
         have z0 := hM5.cell 0
         have z1 := hM5.cell 1
         have z2 := hM5.cell 2
         have z3 := hM5.cell 3
         simp only [List.getElem?_cons_succ, List.getElem?_cons_zero] at z0 z1 z2 z3
         have hb5 := Ch.from hba hB0 hBp (by simp; omega) hc5)
      | (go_at_call 86; refine (hR.out _ v5 hb5 hW5 (by simp; omega)).mono ?_; rintro e w6 ⟨rfl, hW6, hc6⟩))
    go_end0
    exact ⟨rfl, by simpa using hW6, Ch.of_alloc (hc5.trans hc6)⟩
theorem dt_any (x : RM.Dm) : DtOk x := RM.Dl.all_of DtOk dt_step (.one x) 0 x (by cases x; rfl)
end Go.Proofs.YthfelkcomhflnaaDoor

/- Write and Display. -/
namespace Go.Proofs.YthfelkcomhflnaaDoor
open Go.ChangeShapes Go.WideShapes Go.ChangeAt Go.RowKit

/-! ### Write and Display -/
set_option maxRecDepth 100000 in
set_option maxHeartbeats 4000000 in
theorem showtext_any (x : RM.Dm) (w : World) (u : Value) (b : Bool) (h : In w u x.is) (hT : Tab w) :
    Calls Tryd.prog 62 #[dtv x u, .bool b] w fun e w' => e = .returned (.tuple #[.string ⟨(if SM.okd x then SM.txt b x else []).toArray⟩, chv (SM.okd x)]) ∧ Went w w' := by
  obtain ⟨A, c, rfl⟩ := h.read
  have hC := Lib.hid (fun (w' : World) (hb : Below w.heap.size w w') => check_any x w' (.slice A x.is.len c) (h.below hb))
  have hD := Lib.hid (fun hk hr w' v B p l => dt_any x w w' (.slice A x.is.len c) v B p l b h hk hr hT)
  cases hok : SM.okd x
  · rw [hok] at hC
    have hok' := Lib.hid hok
    clear hok hD hT h
    unfold dtv at hC ⊢
    obtain ⟨N, hN⟩ : ∃ N, x.is.len = N := ⟨_, rfl⟩
    rw [hN] at hC ⊢
    clear hN
    have hb0 : Below w.heap.size w (w.alloc (.cells #[.int .i64 x.k, .int .i64 x.n, .string ⟨x.s.toArray⟩, .slice A N c] 42)) := went_alloc _ _
    unfold chv at hC ⊢
    go_enter Tryd.func62, Tryd.ntmps62
    go_wp2_with (go_at_call 47; refine (hC.out _ hb0).mono ?_; rintro e w5 ⟨rfl, hb5⟩)
    go_ret2
    exact ⟨rfl, hb0.trans (hb5.mono hb0.size)⟩
  · rw [hok] at hC
    have hz : SM.sz x.is + 1 ≤ 4000 ∧ SM.kd x.k x.n x.s x.is = true ∧ SM.rgt x.is = true := by
      unfold SM.okd at hok
      simp only [Bool.and_eq_true, decide_eq_true_eq] at hok
      exact ⟨hok.1.1, hok.2.1, hok.2.2⟩
    have hD' := Lib.hid (fun w' v B p l => hD.out hz.2.1 hz.2.2 w' v B p l)
    have hzz := hz.1
    obtain ⟨t, ht⟩ : ∃ t, SM.txt b x = t := ⟨_, rfl⟩
    obtain ⟨Z, hZ⟩ : ∃ Z, SM.sz x.is = Z := ⟨_, rfl⟩
    rw [hZ] at hD' hzz
    rw [ht] at hD'
    rw [if_pos rfl, ht]
    clear hok hD hT h hz ht hZ
    unfold dtv at hC hD' ⊢
    obtain ⟨N, hN⟩ : ∃ N, x.is.len = N := ⟨_, rfl⟩
    rw [hN] at hC hD' ⊢
    clear hN
    have hL := Lies.made w 42 #[.int .i64 x.k, .int .i64 x.n, .string ⟨x.s.toArray⟩, .slice A N c]
    have hb0 : Below w.heap.size w (w.alloc (.cells #[.int .i64 x.k, .int .i64 x.n, .string ⟨x.s.toArray⟩, .slice A N c] 42)) := went_alloc _ _
    unfold chv at hC ⊢
    go_enter Tryd.func62, Tryd.ntmps62
    go_wp2_with (first
      | (go_at_call 47
         refine (hC.out _ hb0).mono ?_
         rintro e w5 ⟨rfl, hb5⟩
         have hb6 : Below w.heap.size w w5 := hb0.trans (hb5.mono hb0.size)
         have hM := (hL.below hb5 hL.lt).alloc (.cells #[.slice none 0 0, .bool b] 106)
         have hM0 := hL.below hb5 hL.lt
         have hb7 : Below w.heap.size w (w5.alloc (.cells #[.slice none 0 0, .bool b] 106)) := hb6.alloc hb6.size _
         have hW : Wr (w5.alloc (.cells #[.slice none 0 0, .bool b] 106)) w5.heap.size w5.heap.size (.slice none 0 0) [] b := ⟨Nat.le_refl _, Lies.made _ _ _, OwnB.none_ _ _⟩
         have z0 := hM0.cell 0
         have z1 := hM0.cell 1
         have z2 := hM0.cell 2
         have z3 := hM0.cell 3
         simp only [List.getElem?_cons_succ, List.getElem?_cons_zero] at z0 z1 z2 z3
         have hz5 := hM0.lt
         have hs6 := hb6.size)
      | (go_at_call 71
         refine (hD'.out _ (.slice none 0 0) w5.heap.size w5.heap.size [] hb6.size hb7 hW (by simp; omega)).mono ?_
         rintro e w8 ⟨rfl, ⟨v8, hW8⟩, hc8⟩
         have hcv := hW8.2.2.conv
         have q0 := hW8.2.1.cell 0
         simp only [List.getElem?_cons_zero] at q0
         have hb8 := hb7.trans ((hc8.below (Nat.le_refl _) (by simp)).mono hb6.size)))
    go_ret2
    exact ⟨rfl, hb8⟩
theorem write_any (x : RM.Dm) (w : World) (u : Value) (h : In w u x.is) (hT : Tab w) :
    Calls Tryd.prog 54 #[dtv x u] w fun e w' => e = .returned (.tuple #[.string ⟨(if SM.okd x then SM.txt false x else []).toArray⟩, chv (SM.okd x)]) ∧ Went w w' := by
  have hC := Lib.hid (fun (w' : World) (hb : Below w.heap.size w w') => showtext_any x w' u false (h.below hb) (hT.on hb))
  obtain ⟨A, c, rfl⟩ := h.read
  generalize (⟨(if SM.okd x then SM.txt false x else []).toArray⟩ : ByteArray) = t at hC ⊢
  obtain ⟨N, hN⟩ : ∃ N, x.is.len = N := ⟨_, rfl⟩
  unfold dtv at hC ⊢
  rw [hN] at hC ⊢
  clear hN h
  have hb0 : Below w.heap.size w (w.alloc (.cells #[.int .i64 x.k, .int .i64 x.n, .string ⟨x.s.toArray⟩, .slice A N c] 42)) := went_alloc _ _
  obtain ⟨ok, hok⟩ : ∃ ok, SM.okd x = ok := ⟨_, rfl⟩
  rw [hok] at hC ⊢
  clear hok
  cases ok
  all_goals
    unfold chv at hC ⊢
    go_enter Tryd.func54, Tryd.ntmps54
    go_wp2_with (go_at_call 62; refine (hC.out _ hb0).mono ?_; rintro e w5 ⟨rfl, hb5⟩)
    go_ret2
    exact ⟨rfl, hb0.trans (hb5.mono hb0.size)⟩
end Go.Proofs.YthfelkcomhflnaaDoor
