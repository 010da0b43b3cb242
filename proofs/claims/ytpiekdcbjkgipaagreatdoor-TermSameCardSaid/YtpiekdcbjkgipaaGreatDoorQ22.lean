/- What the writer puts of any right datum; Write and Display. -/
import Derived.Test.YtpiekdcbjkgipaaGreatDoorQ21
import Derived.Test.YtpiekdcbjkgipaaGreatDoorQ4
import Derived.Test.YtpiekdcbjkgipaaGreatDoorQ16
import Derived.Test.YtpiekdcbjkgipaaGreatDoorQ17
import Derived.Lib.AppendStr
import Derived.Test.YtpiekdcbjkgipaaGreatDoorQ6
namespace Go.Proofs.YtpiekdcbjkgipaaGreatDoor
open Go.ChangeShapes Go.WideShapes Go.ChangeAt Go.RowKit

set_option maxRecDepth 100000 in
set_option maxHeartbeats 8000000 in
theorem dt_step (k n : Int) (s : List UInt8) (is : RM.Dl) (hP : ∀ i x, is.at_ i = some x → DtOk x) : DtOk ⟨k, n, s, is⟩ := by
  intro W0 w u v B p l b h1 hkd hrg hT0 hB0 hb0 hW0 hlz
  have hRow := fun hk w' v' l' => row_any k n s is hP hk W0 w' u v' B p l' b h1 hkd hrg hT0 hB0
  obtain ⟨A1, c1, rfl⟩ := h1.read
  have hlen := h1.len
  obtain ⟨hBp, hpw⟩ := hW0.lt
  have htx : SM.txt b ⟨k, n, s, is⟩ = SM.one b k n s (SM.tl b (decide (k = 7)) true is) := rfl
  rw [htx]
  clear htx hP
  simp only at h1 hkd hrg hlz hRow hlen
  unfold dtv
  simp only
  obtain ⟨S, hS⟩ : ∃ S : ByteArray, ⟨s.toArray⟩ = S := ⟨_, rfl⟩
  have hSs : Hid (S.data.toList = s) := Lib.hid (by rw [← hS])
  obtain ⟨N, hN⟩ : ∃ N, is.len = N := ⟨_, rfl⟩
  obtain ⟨Z, hZ⟩ : ∃ Z, SM.sz is = Z := ⟨_, rfl⟩
  rw [hS, hN, hZ] at hRow
  rw [hS]
  rw [hN] at h1 hlen ⊢
  rw [hZ] at hlz
  have hk8 := SM.kd_kind hkd
  have hSz : (k = 4 ∨ k = 5) → S.size ≤ 500 := fun h => by
    have := SM.kd_short hkd (by omega) (by omega)
    rwa [← hSs.out, size_len] at this
  have hSz' := Lib.hid hSz
  have hRow' := Lib.hid hRow
  have hT0' := Lib.hid hT0
  have hPut := Lib.hid (fun w' v' l' t => put_any w' B p v' l' t b)
  have hL := Lies.made w 25 #[.int .i64 k, .int .i64 n, .string S, .slice A1 N c1]
  have hWa := hW0.alloc (.cells #[.int .i64 k, .int .i64 n, .string S, .slice A1 N c1] 25)
  have hba : Below W0.heap.size W0 (w.alloc (.cells #[.int .i64 k, .int .i64 n, .string S, .slice A1 N c1] 25)) := hb0.alloc hb0.size _
  have y1 : w.cell? ⟨p, 1, none⟩ = some (.bool b) := hW0.2.1.cell 1
  clear hS hN hZ hRow hSz hT0 hrg h1
  rcases hk8 with rfl | rfl | rfl | rfl | rfl | rfl | rfl | rfl
  · have hn := SM.kd_n1 hkd
    have hR := Lib.hid (fun w' (hb' : Below W0.heap.size W0 w') => text_any n (by omega) (by omega) w' ((hT0'.out).on hb'))
    have hil := Lib.itoa_length_le n (by omega) (by omega)
    have hon : Hid (SM.one b 1 n s (SM.tl b (decide ((1 : Int) = 7)) true is) = Lib.itoa n) := Lib.hid rfl
    rw [hon.out]
    clear hkd
    go_enter Tryz.func119, Tryz.ntmps119
    go_wp2_with (first
      | (go_at_call 127; refine (hR.out _ hba).mono ?_; rintro e w5 ⟨rfl, hb5⟩)
      | (go_at_call 126; refine (hPut.out _ v l (Lib.itoa n) (hWa.below hb5) (by omega)).mono ?_; rintro e w6 ⟨rfl, hW6, hc6⟩))
    go_end0
    exact ⟨rfl, hW6, Ch.of_alloc ((Ch.of_below hb5).trans hc6)⟩
  · have hn := SM.kd_n2 hkd
    have hR := Lib.hid (truth_any n)
    have hon : Hid (SM.one b 2 n s (SM.tl b (decide ((2 : Int) = 7)) true is) = (if n = 0 then [35, 102] else [35, 116])) := Lib.hid rfl
    rw [hon.out]
    obtain ⟨t, ht⟩ : ∃ t : List UInt8, (if n = 0 then [35, 102] else [35, 116]) = t := ⟨_, rfl⟩
    have htl : t.length = 2 := by rw [← ht]; split <;> rfl
    rw [ht] at hR ⊢
    clear hkd ht
    go_enter Tryz.func119, Tryz.ntmps119
    go_wp2_with (first
      | (go_at_call 128; refine (hR.out _).mono ?_; rintro e w5 ⟨rfl, hb5⟩)
      | (go_at_call 126; refine (hPut.out _ v l t (hWa.below hb5) (by omega)).mono ?_; rintro e w6 ⟨rfl, hW6, hc6⟩))
    go_end0
    exact ⟨rfl, hW6, Ch.of_alloc ((Ch.of_below hb5).trans hc6)⟩
  · have hn := SM.kd_n3 hkd
    have hR := Lib.hid (char_any _ B p v l b n hWa (by omega) hn.1 hn.2)
    have hon : Hid (SM.one b 3 n s (SM.tl b (decide ((3 : Int) = 7)) true is) = (if b then [UInt8.ofNat n.toNat] else SM.chr n)) := Lib.hid rfl
    rw [hon.out]
    obtain ⟨t, ht⟩ : ∃ t : List UInt8, (if b then [UInt8.ofNat n.toNat] else SM.chr n) = t := ⟨_, rfl⟩
    rw [ht] at hR ⊢
    clear hkd ht
    go_enter Tryz.func119, Tryz.ntmps119
    go_wp2_with (go_at_call 129; refine (hR.out).mono ?_; rintro e w5 ⟨rfl, hW6, hc6⟩)
    go_end0
    exact ⟨rfl, hW6, Ch.of_alloc hc6⟩
  · have hS5 := hSz'.out (.inl rfl)
    clear hkd
    have y1' : (w.alloc (.cells #[.int .i64 4, .int .i64 n, .string S, .slice A1 N c1] 25)).cell? ⟨p, 1, none⟩ = some (.bool b) := hWa.2.1.cell 1
    cases b
    · have hR := Lib.hid (quoted_any _ B p v l false S hWa (by omega) hS5)
      have hon : Hid (SM.one false 4 n s (SM.tl false (decide ((4 : Int) = 7)) true is) = SM.quo S.data.toList) := Lib.hid (by rw [hSs.out]; rfl)
      rw [hon.out]
      go_enter Tryz.func119, Tryz.ntmps119
      go_wp2_with (go_at_call 130; refine (hR.out).mono ?_; rintro e w5 ⟨rfl, hW6, hc6⟩)
      exact bodyPost_ret (v := .tuple #[]) (by simp [results, Tryz.results119, go_sem]) rfl ⟨rfl, hW6, Ch.of_alloc hc6⟩
    · have hR := Lib.hid (put_any _ B p v l S.data.toList true hWa (by rw [size_len]; omega))
      have hon : Hid (SM.one true 4 n s (SM.tl true (decide ((4 : Int) = 7)) true is) = S.data.toList) := Lib.hid (by rw [hSs.out]; rfl)
      rw [hon.out]
      rw [show (⟨S.data.toList.toArray⟩ : ByteArray) = S from by cases S; rfl] at hR
      go_enter Tryz.func119, Tryz.ntmps119
      go_wp2_with (go_at_call 126; refine (hR.out).mono ?_; rintro e w5 ⟨rfl, hW6, hc6⟩)
      go_end0
      exact ⟨rfl, hW6, Ch.of_alloc hc6⟩
  · have hS5 := hSz'.out (.inr rfl)
    clear hkd
    have hR := Lib.hid (put_any _ B p v l S.data.toList b hWa (by rw [size_len]; omega))
    have hon : Hid (SM.one b 5 n s (SM.tl b (decide ((5 : Int) = 7)) true is) = S.data.toList) := Lib.hid (by rw [hSs.out]; rfl)
    rw [hon.out]
    rw [show (⟨S.data.toList.toArray⟩ : ByteArray) = S from by cases S; rfl] at hR
    go_enter Tryz.func119, Tryz.ntmps119
    go_wp2_with (go_at_call 126; refine (hR.out).mono ?_; rintro e w5 ⟨rfl, hW6, hc6⟩)
    go_end0
    exact ⟨rfl, hW6, Ch.of_alloc hc6⟩
  · clear hkd
    have hR := Lib.hid (hRow'.out (.inl rfl) _ v l hba hWa (by omega))
    have hon : Hid (SM.one b 6 n s (SM.tl b (decide ((6 : Int) = 7)) true is) = 40 :: (SM.tl b (decide ((6 : Int) = 7)) true is ++ [41])) := Lib.hid rfl
    rw [hon.out]
    obtain ⟨t, ht⟩ : ∃ t : List UInt8, 40 :: (SM.tl b (decide ((6 : Int) = 7)) true is ++ [41]) = t := ⟨_, rfl⟩
    rw [ht] at hR ⊢
    clear ht
    go_enter Tryz.func119, Tryz.ntmps119
    go_wp2_with (go_at_call 131; refine (hR.out).mono ?_; rintro e w5 ⟨rfl, hW6, hc6⟩)
    go_end0
    exact ⟨rfl, hW6, Ch.of_alloc hc6⟩
  · clear hkd
    have hR := Lib.hid (hRow'.out (.inr (.inl rfl)) _ v l hba hWa (by omega))
    have hon : Hid (SM.one b 7 n s (SM.tl b (decide ((7 : Int) = 7)) true is) = 40 :: (SM.tl b (decide ((7 : Int) = 7)) true is ++ [41])) := Lib.hid rfl
    rw [hon.out]
    obtain ⟨t, ht⟩ : ∃ t : List UInt8, 40 :: (SM.tl b (decide ((7 : Int) = 7)) true is ++ [41]) = t := ⟨_, rfl⟩
    rw [ht] at hR ⊢
    clear ht
    go_enter Tryz.func119, Tryz.ntmps119
    go_wp2_with (go_at_call 131; refine (hR.out).mono ?_; rintro e w5 ⟨rfl, hW6, hc6⟩)
    go_end0
    exact ⟨rfl, hW6, Ch.of_alloc hc6⟩
  · clear hkd
    have hR := Lib.hid (fun w' v' => hRow'.out (.inr (.inr rfl)) w' v' (l ++ [35]))
    have hon : Hid (SM.one b 8 n s (SM.tl b (decide ((8 : Int) = 7)) true is) = 35 :: 40 :: (SM.tl b (decide ((8 : Int) = 7)) true is ++ [41])) := Lib.hid rfl
    rw [hon.out]
    obtain ⟨t, ht⟩ : ∃ t : List UInt8, 40 :: (SM.tl b (decide ((8 : Int) = 7)) true is ++ [41]) = t := ⟨_, rfl⟩
    rw [ht] at hR ⊢
    clear ht
    go_enter Tryz.func119, Tryz.ntmps119
    go_wp2_with (first
      | (go_at_call 126
         refine (hPut.out _ v l [35] hWa (by simp; omega)).mono ?_
         rintro e w5 ⟨rfl, ⟨v5, hW5⟩, hc5⟩
         have hM5 := hL.ch (by decide) (by omega) hc5
         have z0 := hM5.cell 0
         have z1 := hM5.cell 1
         have z2 := hM5.cell 2
         have z3 := hM5.cell 3
         simp only [List.getElem?_cons_succ, List.getElem?_cons_zero] at z0 z1 z2 z3
         have hb5 := Ch.from hba hB0 hBp (by simp; omega) hc5)
      | (go_at_call 131; refine (hR.out _ v5 hb5 hW5 (by simp; omega)).mono ?_; rintro e w6 ⟨rfl, hW6, hc6⟩))
    go_end0
    exact ⟨rfl, by simpa using hW6, Ch.of_alloc (hc5.trans hc6)⟩
theorem dt_any (x : RM.Dm) : DtOk x := RM.Dl.all_of DtOk dt_step (.one x) 0 x (by cases x; rfl)
end Go.Proofs.YtpiekdcbjkgipaaGreatDoor

/- Write and Display. -/
namespace Go.Proofs.YtpiekdcbjkgipaaGreatDoor
open Go.ChangeShapes Go.WideShapes Go.ChangeAt Go.RowKit

/-! ### Write and Display -/
set_option maxRecDepth 100000 in
set_option maxHeartbeats 4000000 in
theorem showtext_any (x : RM.Dm) (w : World) (u : Value) (b : Bool) (h : In w u x.is) (hT : Tab w) :
    Calls Tryz.prog 105 #[dtv x u, .bool b] w fun e w' => e = .returned (.tuple #[.string ⟨(if SM.okd x then SM.txt b x else []).toArray⟩, chv (SM.okd x)]) ∧ Went w w' := by
  obtain ⟨A, c, rfl⟩ := h.read
  have hC := Lib.hid (fun (w' : World) (hb : Below w.heap.size w w') => check_any x w' (.slice A x.is.len c) (h.below hb))
  have hD := Lib.hid (fun hk hr w' v B p l => dt_any x w w' (.slice A x.is.len c) v B p l b h hk hr hT)
  cases hok : SM.okd x
  · rw [hok] at hC
    have hok' := Lib.hid hok
    clear hok hD hT h
    unfold dtv at hC ⊢
    obtain ⟨N, hN⟩ : ∃ N, x.is.len = N := ⟨_, rfl⟩
    rw [hN] at hC ⊢
    clear hN
    have hb0 : Below w.heap.size w (w.alloc (.cells #[.int .i64 x.k, .int .i64 x.n, .string ⟨x.s.toArray⟩, .slice A N c] 25)) := went_alloc _ _
    unfold chv at hC ⊢
    go_enter Tryz.func105, Tryz.ntmps105
    go_wp2_with (go_at_call 100; refine (hC.out _ hb0).mono ?_; rintro e w5 ⟨rfl, hb5⟩)
    go_ret2
    exact ⟨rfl, hb0.trans (hb5.mono hb0.size)⟩
  · rw [hok] at hC
    have hz : SM.sz x.is + 1 ≤ 4000 ∧ SM.kd x.k x.n x.s x.is = true ∧ SM.rgt x.is = true := by
      unfold SM.okd at hok
      simp only [Bool.and_eq_true, decide_eq_true_eq] at hok
      exact ⟨hok.1.1, hok.2.1, hok.2.2⟩
    have hD' := Lib.hid (fun w' v B p l => hD.out hz.2.1 hz.2.2 w' v B p l)
    have hzz := hz.1
    obtain ⟨t, ht⟩ : ∃ t, SM.txt b x = t := ⟨_, rfl⟩
    obtain ⟨Z, hZ⟩ : ∃ Z, SM.sz x.is = Z := ⟨_, rfl⟩
    rw [hZ] at hD' hzz
    rw [ht] at hD'
    rw [if_pos rfl, ht]
    clear hok hD hT h hz ht hZ
    unfold dtv at hC hD' ⊢
    obtain ⟨N, hN⟩ : ∃ N, x.is.len = N := ⟨_, rfl⟩
    rw [hN] at hC hD' ⊢
    clear hN
    have hL := Lies.made w 25 #[.int .i64 x.k, .int .i64 x.n, .string ⟨x.s.toArray⟩, .slice A N c]
    have hb0 : Below w.heap.size w (w.alloc (.cells #[.int .i64 x.k, .int .i64 x.n, .string ⟨x.s.toArray⟩, .slice A N c] 25)) := went_alloc _ _
    unfold chv at hC ⊢
    go_enter Tryz.func105, Tryz.ntmps105
    go_wp2_with (first
      | (go_at_call 100
         refine (hC.out _ hb0).mono ?_
         rintro e w5 ⟨rfl, hb5⟩
         have hb6 : Below w.heap.size w w5 := hb0.trans (hb5.mono hb0.size)
         have hM := (hL.below hb5 hL.lt).alloc (.cells #[.slice none 0 0, .bool b] 137)
         have hM0 := hL.below hb5 hL.lt
         have hb7 : Below w.heap.size w (w5.alloc (.cells #[.slice none 0 0, .bool b] 137)) := hb6.alloc hb6.size _
         have hW : Wr (w5.alloc (.cells #[.slice none 0 0, .bool b] 137)) w5.heap.size w5.heap.size (.slice none 0 0) [] b := ⟨Nat.le_refl _, Lies.made _ _ _, OwnB.none_ _ _⟩
         have z0 := hM0.cell 0
         have z1 := hM0.cell 1
         have z2 := hM0.cell 2
         have z3 := hM0.cell 3
         simp only [List.getElem?_cons_succ, List.getElem?_cons_zero] at z0 z1 z2 z3
         have hz5 := hM0.lt
         have hs6 := hb6.size)
      | (go_at_call 119
         refine (hD'.out _ (.slice none 0 0) w5.heap.size w5.heap.size [] hb6.size hb7 hW (by simp; omega)).mono ?_
         rintro e w8 ⟨rfl, ⟨v8, hW8⟩, hc8⟩
         have hcv := hW8.2.2.conv
         have q0 := hW8.2.1.cell 0
         simp only [List.getElem?_cons_zero] at q0
         have hb8 := hb7.trans ((hc8.below (Nat.le_refl _) (by simp)).mono hb6.size)))
    go_ret2
    exact ⟨rfl, hb8⟩
theorem write_any (x : RM.Dm) (w : World) (u : Value) (h : In w u x.is) (hT : Tab w) :
    Calls Tryz.prog 81 #[dtv x u] w fun e w' => e = .returned (.tuple #[.string ⟨(if SM.okd x then SM.txt false x else []).toArray⟩, chv (SM.okd x)]) ∧ Went w w' := by
  have hC := Lib.hid (fun (w' : World) (hb : Below w.heap.size w w') => showtext_any x w' u false (h.below hb) (hT.on hb))
  obtain ⟨A, c, rfl⟩ := h.read
  generalize (⟨(if SM.okd x then SM.txt false x else []).toArray⟩ : ByteArray) = t at hC ⊢
  obtain ⟨N, hN⟩ : ∃ N, x.is.len = N := ⟨_, rfl⟩
  unfold dtv at hC ⊢
  rw [hN] at hC ⊢
  clear hN h
  have hb0 : Below w.heap.size w (w.alloc (.cells #[.int .i64 x.k, .int .i64 x.n, .string ⟨x.s.toArray⟩, .slice A N c] 25)) := went_alloc _ _
  obtain ⟨ok, hok⟩ : ∃ ok, SM.okd x = ok := ⟨_, rfl⟩
  rw [hok] at hC ⊢
  clear hok
  cases ok
  all_goals
    unfold chv at hC ⊢
    go_enter Tryz.func81, Tryz.ntmps81
    go_wp2_with (go_at_call 105; refine (hC.out _ hb0).mono ?_; rintro e w5 ⟨rfl, hb5⟩)
    go_ret2
    exact ⟨rfl, hb0.trans (hb5.mono hb0.size)⟩
end Go.Proofs.YtpiekdcbjkgipaaGreatDoor

/- What package term's writer puts; a local's text; what is quoted. -/
namespace Go.Proofs.YtpiekdcbjkgipaaGreatDoor
open Go.ChangeShapes Go.WideShapes Go.ChangeAt Go.RowKit
open TM (Tl Tm)

/-- the writer at p has written l -/
def Wt (w : World) (B p : Nat) (v : Value) (l : List UInt8) : Prop := B ≤ w.heap.size ∧ Lies w p 63 [v] ∧ OwnB w B v l
section
variable {B p q : Nat} {w w' w2 : World} {v : Value} {l : List UInt8}
theorem Wt.lt (h : Wt w B p v l) : B ≤ w.heap.size ∧ p < w.heap.size := ⟨h.1, h.2.1.lt⟩
theorem Wt.read (h : Wt w B p v l) : ∃ A c, v = .slice A l.length c := h.2.2.read
theorem Wt.alloc (h : Wt w B p v l) (o : Obj) : Wt (w.alloc o) B p v l := ⟨by have := h.1; simp; omega, h.2.1.alloc o, own_turns h.2.2 ((Turns.refl (fun _ => False) w).alloc o) (fun _ _ h => h)⟩
theorem Wt.below (h : Wt w B p v l) (k : Below w.heap.size w w') : Wt w' B p v l := ⟨Nat.le_trans h.1 k.size, h.2.1.below k h.2.1.lt, own_below h.2.2 k⟩
theorem Wt.put {v' : Value} {l' : List UInt8} (h : Wt w B p v l) (hO : OwnB w' B v' l') (hg : w.grownBy w' v.ownBlock) : Wt (w'.setCell ⟨p, 0, none⟩ v') B p v' l' ∧ Ch B p w (w'.setCell ⟨p, 0, none⟩ v') := by
  obtain ⟨hB, hL, hO0⟩ := h
  have T := Turns.appendedS hg
  have hL1 := hL.turns T (fun hh => ((hO0.byt _ hh).2).not_lies hL (by decide))
  have hne : ∀ g, v'.ownBlock = some g → g ≠ p := fun g hh e => by subst e; exact ((hO.byt _ hh).2).not_lies hL1 (by decide)
  refine ⟨⟨by simpa using Nat.le_trans hB T.size, hL1.stored 0 v', own_turns hO ((Turns.refl (fun k => k = p) w').setCell (p := ⟨p, 0, none⟩) (fun _ => rfl) v') (fun g hh => hne g hh)⟩, ?_⟩
  exact Turns.setCell (T.mono (fun i _ hi => .inr (hO0.byt i hi))) (fun _ => .inl rfl) v'
end
set_option maxRecDepth 100000 in
theorem tput_any (w : World) (B p : Nat) (v : Value) (l t : List UInt8) (h : Wt w B p v l) (hl : l.length + t.length ≤ 100000000000000) :
    Calls Tryz.prog 55 #[.pointer (some ⟨p, 0, none⟩), .string ⟨t.toArray⟩] w fun e w' => e = .returned (.tuple #[]) ∧ (∃ v', Wt w' B p v' (l ++ t)) ∧ Ch B p w w' := by
  obtain ⟨A, c, rfl⟩ := h.read
  obtain ⟨hB, hp⟩ := h.lt
  have hL := h.2.1
  have y0 : w.cell? ⟨p, 0, none⟩ = some (.slice A l.length c) := hL.cell 0
  have f1 := hL.free
  obtain ⟨S, hS⟩ : ∃ S : ByteArray, ⟨t.toArray⟩ = S := ⟨_, rfl⟩
  have hSs : S.size = t.length := by rw [← hS]; rfl
  have hSd : Lib.strCells S = Lib.byteCells t := by rw [← hS]; rfl
  rw [hS]
  obtain ⟨i0, hi, hz0, hz1, hz2⟩ := info_parts Tryz.infoByte
  obtain ⟨n, hn⟩ : ∃ n, l.length = n := ⟨_, rfl⟩
  have hO : w.ownsRow B 5 1 (.slice A n c) n (Lib.byteCells l) := by have := h.2.2; unfold OwnB at this; rwa [hn] at this
  rw [hn] at y0 hl h
  have hn' := Lib.hid hn
  clear hn hL
  go_enter Tryz.func55, Tryz.ntmps55
  go_wp2_with (
    at_builtin
    refine Lib.wpList_append_own_string (P := Tryz.prog) w rfl _ _ 61 9 rfl B 5 i0 Tryz.underlying61 Tryz.underlying9 hi hz0 hz1 hz2 (.slice A n c) n (Lib.byteCells l) rfl hO S rfl (by rw [hSs]; unfold maxLen; omega) (by rw [hSs]; omega) (by omega) ?_
    intro v9 w9 hown9 hg9 _
    have hO9 : OwnB w9 B v9 (l ++ t) := by
      unfold OwnB
      rw [List.length_append, hn'.out, ← hSs, Lib.byteCells, List.map_append, ← Lib.byteCells, ← Lib.byteCells, ← hSd]
      exact hown9
    obtain ⟨m9, hm9⟩ : ∃ m, (l ++ t).length = m := ⟨_, rfl⟩
    obtain ⟨A9, c9, e9⟩ := hO9.read
    rw [hm9] at e9
    subst e9
    have hW := Wt.put h hO9 hg9
    have y9 : w9.cell? ⟨p, 0, none⟩ = some (.slice A n c) := by
      have T := Turns.appendedS hg9
      exact ((h.2.1).turns T (fun hh => ((h.2.2.byt _ hh).2).not_lies h.2.1 (by decide))).cell 0
    have f9 := ((h.2.1).turns (Turns.appendedS hg9) (fun hh => ((h.2.2.byt _ hh).2).not_lies h.2.1 (by decide))).free
    clear hown9 hg9 hO9 hm9)
  go_end0
  exact ⟨rfl, ⟨_, hW.1⟩, hW.2⟩
theorem ret_text {a : ByteArray} {b : List UInt8} (h : a.data.toList = b) : Ending.returned (.string a) = .returned (.string ⟨b.toArray⟩) := by
  rw [ba_ext (a := a) (b := ⟨b.toArray⟩) (by simpa using h)]
set_option maxRecDepth 100000 in
theorem local_any (n : Int) (h : b64 n) (w : World) (hT : Tab w) : Calls Tryz.prog 57 #[.int .i64 n] w fun e w' => e = .returned (.string ⟨(TM.loc n).toArray⟩) ∧ Went w w' := by
  have H := fun w ht => Tryz.strconv_Itoa n h.1 h.2 w ht
  have H' := Lib.hid H
  have hT' := Lib.hid hT
  obtain ⟨S, hS⟩ : ∃ S : ByteArray, ⟨(Lib.itoa n).toArray⟩ = S := ⟨_, rfl⟩
  rw [hS] at H'
  have hS' := Lib.hid hS
  have hz : S.size ≤ 30 := by
    have := Lib.itoa_length_le n h.1 h.2
    rw [← hS]
    simpa [ByteArray.size] using Nat.le_trans this (by omega)
  clear H hS hT
  go_enter Tryz.func57, Tryz.ntmps57
  go_wp2_with (go_at_call 82; refine (H'.out _ hT'.out).mono ?_; rintro e w' ⟨rfl, k, os, rfl⟩)
  go_ret
  exact ⟨ret_text (by rw [← hS'.out]; simp [TM.loc]), Lib.below_grow _ _ (Nat.le_refl _) k os⟩
set_option maxRecDepth 100000 in
theorem tquoted_any (d : RM.Dm) (w : World) (u : Value) (h : In w u d.is) (hq : TM.quo d = true) (hT : Tab w) :
    Calls Tryz.prog 56 #[dtv d u] w fun e w' => e = .returned (.string ⟨(TM.qtx d).toArray⟩) ∧ Went w w' := by
  have hW := Lib.hid (fun (w' : World) (hb : Below w.heap.size w w') => write_any d w' u (h.below hb) (hT.on hb))
  obtain ⟨A, c, rfl⟩ := h.read
  obtain ⟨N, hN⟩ : ∃ N, d.is.len = N := ⟨_, rfl⟩
  by_cases hk : d.k = 0
  · unfold TM.quo at hq
    rw [if_pos hk] at hq
    have hn : d.n = 0 ∨ d.n = 1 := by
      simp only [Bool.and_eq_true, Bool.or_eq_true, decide_eq_true_eq] at hq
      exact hq.1.1
    unfold TM.qtx
    rw [if_neg (by simpa using hk)]
    unfold dtv
    rw [hN, hk]
    clear hW hq h hN
    rcases hn with hn | hn
    · rw [hn, if_pos rfl]
      go_enter Tryz.func56, Tryz.ntmps56
      go_wp2_with fail
      go_ret
      exact ⟨rfl, went_alloc _ _⟩
    · rw [hn, if_neg (by omega)]
      go_enter Tryz.func56, Tryz.ntmps56
      go_wp2_with fail
      go_ret
      exact ⟨rfl, went_alloc _ _⟩
  · unfold TM.quo at hq
    rw [if_neg hk] at hq
    rw [hq] at hW
    simp only [if_true] at hW
    unfold TM.qtx
    rw [if_pos hk]
    obtain ⟨S, hS⟩ : ∃ S : ByteArray, ⟨(SM.txt false d).toArray⟩ = S := ⟨_, rfl⟩
    rw [hS] at hW
    have hS' := Lib.hid hS
    have hz : S.size ≤ 5000000 := by
      have h2 := hq
      unfold SM.okd at h2
      simp only [Bool.and_eq_true, decide_eq_true_eq] at h2
      have := SM.txt_len false d h2.2.1 h2.2.2
      rw [← hS]
      have e : (⟨(SM.txt false d).toArray⟩ : ByteArray).size = (SM.txt false d).length := by simp [ByteArray.size]
      omega
    unfold chv dtv at hW
    unfold dtv
    rw [hN] at hW ⊢
    have hb0 : Below w.heap.size w (w.alloc (.cells #[.int .i64 d.k, .int .i64 d.n, .string ⟨d.s.toArray⟩, .slice A N c] 25)) := went_alloc _ _
    clear hS hq h hN hT
    go_enter Tryz.func56, Tryz.ntmps56
    go_wp2_with (go_at_call 81; refine (hW.out _ hb0).mono ?_; rintro e w5 ⟨rfl, hb5⟩)
    go_ret
    exact ⟨ret_text (by rw [← hS'.out]; simp), hb0.trans (Below.mono hb5 hb0.size)⟩
end Go.Proofs.YtpiekdcbjkgipaaGreatDoor

/- Terms in memory that does not lie in one block (where the writer stands). -/
namespace Go.Proofs.YtpiekdcbjkgipaaGreatDoor
open Go.ChangeShapes Go.WideShapes Go.ChangeAt Go.RowKit
open TM (Tl Tm)

/-- v is a slice of these ints, whatever becomes of blocks beside D -/
def PD (w : World) (D : Nat → Prop) (v : Value) (l : List Int) : Prop := ∀ w', Agr D w w' → PIn w' v l
/-- these terms lie in block b from o on, in blocks of D alone -/
def TAtD (w : World) (D : Nat → Prop) : Tl → Nat → Nat → Prop
  | .nil, _, _ => True
  | .cons k n s ps d ks r, b, o => (b < w.heap.size ∧ D b) ∧ w.cell? ⟨b, o, none⟩ = some (.int .i64 k) ∧ w.cell? ⟨b, o + 1, none⟩ = some (.int .i64 n) ∧ w.cell? ⟨b, o + 2, none⟩ = some (.string ⟨s.toArray⟩)
      ∧ (∃ v, w.cell? ⟨b, o + 3, none⟩ = some v ∧ PD w D v ps)
      ∧ w.cell? ⟨b, o + 4, none⟩ = some (.int .i64 d.k) ∧ w.cell? ⟨b, o + 5, none⟩ = some (.int .i64 d.n) ∧ w.cell? ⟨b, o + 6, none⟩ = some (.string ⟨d.s.toArray⟩)
      ∧ (∃ v, w.cell? ⟨b, o + 7, none⟩ = some v ∧ InD w D v d.is)
      ∧ (∃ A c, w.cell? ⟨b, o + 8, none⟩ = some (.slice A ks.len c) ∧ ks.len ≤ 9223372036854775807 ∧ ∃ b' o', (0 < ks.len → A = some ⟨b', o', none⟩) ∧ TAtD w D ks b' o') ∧ TAtD w D r b (o + 9)
def TD (w : World) (D : Nat → Prop) (v : Value) (t : Tl) : Prop := ∃ A c, v = .slice A t.len c ∧ t.len ≤ 9223372036854775807 ∧ ∃ b o, (0 < t.len → A = some ⟨b, o, none⟩) ∧ TAtD w D t b o
structure TmD (w : World) (D : Nat → Prop) (t : Tm) (vp vi vk : Value) : Prop where
  p : PD w D vp t.ps
  d : InD w D vi t.d.is
  k : TD w D vk t.ks
section
variable {w w' w2 : World} {v : Value} {D D0 S : Nat → Prop}
theorem PD.now {l : List Int} (h : PD w D v l) : PIn w v l := h w (Agr.refl _ _)
theorem PD.len {l : List Int} (h : PD w D v l) : l.length ≤ 9223372036854775807 := h.now.len
theorem PD.read {l : List Int} (h : PD w D v l) : ∃ A c, v = .slice A l.length c := h.now.read
theorem InD.read {d : RM.Dl} (h : InD w D v d) : ∃ A c, v = .slice A d.len c := h.in_.read
theorem TD.len {t : Tl} (h : TD w D v t) : t.len ≤ 9223372036854775807 := by
  obtain ⟨_, _, _, h, _⟩ := h; exact h
theorem TD.read {t : Tl} (h : TD w D v t) : ∃ A c, v = .slice A t.len c := by
  obtain ⟨A, c, h, _⟩ := h; exact ⟨A, c, h⟩
theorem Agr.cell (k : Agr D w w') {p : Addr} (h : p.block < w.heap.size) (hd : D p.block) : w'.cell? p = w.cell? p := by
  unfold World.cell?
  rw [k.block p.block h hd]
theorem TAtD.at_ : ∀ {t : Tl} {b o i : Nat} {x : Tm}, TAtD w D t b o → t.at_ i = some x →
    (b < w.heap.size ∧ D b) ∧ w.cell? ⟨b, o + i * 9, none⟩ = some (.int .i64 x.k) ∧ w.cell? ⟨b, o + i * 9 + 1, none⟩ = some (.int .i64 x.n) ∧ w.cell? ⟨b, o + i * 9 + 2, none⟩ = some (.string ⟨x.s.toArray⟩)
      ∧ w.cell? ⟨b, o + i * 9 + 4, none⟩ = some (.int .i64 x.d.k) ∧ w.cell? ⟨b, o + i * 9 + 5, none⟩ = some (.int .i64 x.d.n) ∧ w.cell? ⟨b, o + i * 9 + 6, none⟩ = some (.string ⟨x.d.s.toArray⟩)
      ∧ ∃ P p I q K r, w.cell? ⟨b, o + i * 9 + 3, none⟩ = some (.slice P x.ps.length p) ∧ w.cell? ⟨b, o + i * 9 + 7, none⟩ = some (.slice I x.d.is.len q) ∧ w.cell? ⟨b, o + i * 9 + 8, none⟩ = some (.slice K x.ks.len r)
        ∧ TmD w D x (.slice P x.ps.length p) (.slice I x.d.is.len q) (.slice K x.ks.len r)
  | .nil, _, _, _, _, _, hx => by simp [Tl.at_] at hx
  | .cons k n s ps d ks r, b, o, 0, x, ⟨h0, h1, h2, h3, ⟨v, h4, hp⟩, h5, h6, h7, ⟨u, h8, hi⟩, ⟨A, c, h9, hl, b', o', hA, hk⟩, hr⟩, hx => by
    simp only [Tl.at_, Option.some.injEq] at hx
    subst hx
    simp only [Nat.zero_mul, Nat.add_zero]
    obtain ⟨P, p, rfl⟩ := hp.read
    obtain ⟨I, q, rfl⟩ := hi.read
    exact ⟨h0, h1, h2, h3, h5, h6, h7, P, p, I, q, A, c, h4, h8, h9, hp, hi, ⟨A, c, rfl, hl, b', o', hA, hk⟩⟩
  | .cons k n s ps d ks r, b, o, i + 1, x, ⟨h0, h1, h2, h3, h4, h5, h6, h7, h8, h9, hr⟩, hx => by
    have h := TAtD.at_ hr (show r.at_ i = some x from hx)
    rw [show o + (i + 1) * 9 = o + 9 + i * 9 by omega]
    exact h
/-- the cells of a slice's term, at a world that agrees on D -/
theorem TD.at_ {A : Option Addr} {n c : Nat} {t : Tl} (h : TD w D (.slice A n c) t) (k : Agr D w w') {i : Nat} {x : Tm} (hx : t.at_ i = some x) :
    ∃ b o P p I q K r, A = some ⟨b, o, none⟩ ∧ b < w'.heap.size ∧ w'.cell? ⟨b, o + i * 9, none⟩ = some (.int .i64 x.k) ∧ w'.cell? ⟨b, o + i * 9 + 1, none⟩ = some (.int .i64 x.n) ∧ w'.cell? ⟨b, o + i * 9 + 2, none⟩ = some (.string ⟨x.s.toArray⟩)
      ∧ w'.cell? ⟨b, o + i * 9 + 3, none⟩ = some (.slice P x.ps.length p)
      ∧ w'.cell? ⟨b, o + i * 9 + 4, none⟩ = some (.int .i64 x.d.k) ∧ w'.cell? ⟨b, o + i * 9 + 5, none⟩ = some (.int .i64 x.d.n) ∧ w'.cell? ⟨b, o + i * 9 + 6, none⟩ = some (.string ⟨x.d.s.toArray⟩)
      ∧ w'.cell? ⟨b, o + i * 9 + 7, none⟩ = some (.slice I x.d.is.len q) ∧ w'.cell? ⟨b, o + i * 9 + 8, none⟩ = some (.slice K x.ks.len r)
      ∧ TmD w D x (.slice P x.ps.length p) (.slice I x.d.is.len q) (.slice K x.ks.len r) := by
  obtain ⟨A', c', e, -, b, o, h1, h2⟩ := h
  injection e with e1 e2 e3
  subst e1 e2 e3
  obtain ⟨⟨g0, gD⟩, g1, g2, g3, g4, g5, g6, P, p, I, q, K, r, g7, g8, g9, hT⟩ := h2.at_ hx
  have ce : ∀ o, w'.cell? ⟨b, o, none⟩ = w.cell? ⟨b, o, none⟩ := fun o => k.cell (p := ⟨b, o, none⟩) g0 gD
  rw [← ce] at g1 g2 g3 g4 g5 g6 g7 g8 g9
  exact ⟨b, o, P, p, I, q, K, r, h1 (by have := Tl.at_lt hx; omega), Nat.lt_of_lt_of_le g0 k.size, g1, g2, g3, g7, g4, g5, g6, g8, g9, hT⟩
/-! ### what is one's own lies so -/
theorem Own.pd {B : Nat} {l : List Int} (h : Own w B v l) (hD : ∀ g, v.ownBlock = some g → D g) : PD w D v l := by
  intro w' k
  have h' : Own w' B v l := by
    have hlt := World.ownsRow.lt h
    obtain ⟨h1, h2⟩ := h
    refine ⟨h1, ?_⟩
    rcases h2 with h2 | ⟨g, cap, cur, hv, hg, hh, r⟩
    · exact .inl h2
    · have ho : v.ownBlock = some g := by rw [hv]; rfl
      exact .inr ⟨g, cap, cur, hv, hg, (k.block g (hlt g ho).2 (hD g ho)).trans hh, r⟩
  exact h'.pin
theorem TAtD.of_own (hDD : ∀ g, g < w.heap.size → D0 g → D g) : ∀ {t : Tl} {S : Nat → Prop} {cs : List Value} {b o : Nat}, TAt w D0 t S cs → (∀ g, S g → D g) → (b < w.heap.size ∧ D b) → (∀ j, j < cs.length → w.cell? ⟨b, o + j, none⟩ = cs[j]?) → TAtD w D t b o
  | .nil, _, _, _, _, _, _, _, _ => trivial
  | .cons k n s ps d ks r, S, cs, b, o, ⟨S1, S2, vp, vi, vk, c1, c2, h1, h2, h3, h4, ⟨h5, h6, h7, h8, h9, h10⟩, h11⟩, hS, hb, hc => by
    subst h1
    obtain ⟨A, c, rfl, hr⟩ := own_read h8
    have hl : c1.length = ks.len * 9 := h8.1
    have q : ∀ j, j < 9 → w.cell? ⟨b, o + j, none⟩ = (tcells ⟨k, n, s, ps, d, ks⟩ vp vi (.slice A ks.len c))[j]? := fun j hj => by
      rw [hc j (by simp [tcells]; omega), List.getElem?_append_left (by simp [tcells]; omega)]
    refine ⟨hb, q 0 (by omega), q 1 (by omega), q 2 (by omega), ⟨vp, q 3 (by omega), h5.pd (fun g hg => hS g (h2 g (h6 g hg)))⟩, q 4 (by omega), q 5 (by omega), q 6 (by omega), ⟨vi, q 7 (by omega), h7.mono hDD⟩, ⟨A, c, q 8 (by omega), own_len h8, ?_⟩, TAtD.of_own hDD h11 (fun g hg => hS g (h3 g hg)) hb ?_⟩
    · by_cases h0 : 0 < ks.len
      · obtain ⟨g, hg, _, hlt, _⟩ := hr 0 (by omega)
        refine ⟨g, 0, fun _ => hg, TAtD.of_own hDD h10 (fun g hg => hS g (h2 g hg.1)) ⟨hlt, hS g (h2 g (h9 g (by rw [hg]; rfl)))⟩ fun j hj => ?_⟩
        obtain ⟨g', hg', _, _, h'⟩ := hr j (by omega)
        rw [hg] at hg'
        cases hg'
        rw [Nat.zero_add]
        exact h'
      · have : ks = .nil := by
          cases ks with
          | nil => rfl
          | cons => simp [Tl.len] at h0
        subst this
        exact ⟨0, 0, fun h => absurd h (by simp [Tl.len]), trivial⟩
    · intro j hj
      have := hc (9 + j) (by simp [tcells]; omega)
      rw [show o + 9 + j = o + (9 + j) by omega, this, List.getElem?_append_right (by simp [tcells])]
      simp [tcells]
theorem TOwn.td (hDD : ∀ g, g < w.heap.size → D0 g → D g) (hS : ∀ g, S g → D g) {t : Tl} (h : TOwn w D0 S v t) : TD w D v t := by
  obtain ⟨cs, h1, h2, h3⟩ := h
  have hlen := own_len h1
  obtain ⟨A, c, rfl, hr⟩ := own_read h1
  have hl : cs.length = t.len * 9 := h1.1
  by_cases h0 : 0 < t.len
  · obtain ⟨g, hg, _, hlt, _⟩ := hr 0 (by omega)
    refine ⟨A, c, rfl, hlen, g, 0, fun _ => hg, TAtD.of_own hDD h3 (fun g hg => hS g hg.1) ⟨hlt, hS g (h2 g (by rw [hg]; rfl))⟩ fun j hj => ?_⟩
    obtain ⟨g', hg', _, _, h'⟩ := hr j (by omega)
    rw [hg] at hg'
    cases hg'
    rw [Nat.zero_add]
    exact h'
  · have : t = .nil := by
      cases t with
      | nil => rfl
      | cons => simp [Tl.len] at h0
    subst this
    exact ⟨A, c, rfl, hlen, 0, 0, fun h => absurd h (by simp [Tl.len]), trivial⟩
theorem TmOwn.tmd (hDD : ∀ g, g < w.heap.size → D0 g → D g) (hS : ∀ g, S g → D g) {t : Tm} {vp vi vk : Value} (h : TmOwn w D0 S t vp vi vk) : TmD w D t vp vi vk := by
  have hk := h.kids.td hDD hS
  obtain ⟨c1, h5, h6, h7, h8, h9, h10⟩ := h
  exact ⟨h5.pd (fun g hg => hS g (h6 g hg)), h7.mono hDD, hk⟩
end
end Go.Proofs.YtpiekdcbjkgipaaGreatDoor
