/- What the writer puts of any right datum; Write and Display. -/
import Derived.Test.YtfkmknehoonlcaaDoorShowRow
namespace Go.Proofs.YtfkmknehoonlcaaDoor
open Go.ChangeShapes Go.WideShapes Go.ChangeAt Go.RowKit

set_option maxRecDepth 100000 in
set_option maxHeartbeats 8000000 in
theorem dt_step (k n : Int) (s : List UInt8) (is : RM.Dl) (hP : ∀ i x, is.at_ i = some x → DtOk x) : DtOk ⟨k, n, s, is⟩ := by
  intro W0 w u v B p l b h1 hkd hrg hT0 hB0 hb0 hW0 hlz
  have hRow := fun hk w' v' l' => row_any k n s is hP hk W0 w' u v' B p l' b h1 hkd hrg hT0 hB0
  obtain ⟨A1, c1, rfl⟩ := h1.read
  have hlen := h1.len
  obtain ⟨hBp, hpw⟩ := hW0.lt
  have htx : SM.txt b ⟨k, n, s, is⟩ = SM.one b k n s (SM.tl b (decide (k = 7)) true is) := rfl
  rw [htx]
  clear htx hP
  simp only at h1 hkd hrg hlz hRow hlen
  unfold dtv
  simp only
  obtain ⟨S, hS⟩ : ∃ S : ByteArray, ⟨s.toArray⟩ = S := ⟨_, rfl⟩
  have hSs : Hid (S.data.toList = s) := Lib.hid (by rw [← hS])
  obtain ⟨N, hN⟩ : ∃ N, is.len = N := ⟨_, rfl⟩
  obtain ⟨Z, hZ⟩ : ∃ Z, SM.sz is = Z := ⟨_, rfl⟩
  rw [hS, hN, hZ] at hRow
  rw [hS]
  rw [hN] at h1 hlen ⊢
  rw [hZ] at hlz
  have hk8 := SM.kd_kind hkd
  have hSz : (k = 4 ∨ k = 5) → S.size ≤ 500 := fun h => by
    have := SM.kd_short hkd (by omega) (by omega)
    rwa [← hSs.out, size_len] at this
  have hSz' := Lib.hid hSz
  have hRow' := Lib.hid hRow
  have hT0' := Lib.hid hT0
  have hPut := Lib.hid (fun w' v' l' t => put_any w' B p v' l' t b)
  have hL := Lies.made w 24 #[.int .i64 k, .int .i64 n, .string S, .slice A1 N c1]
  have hWa := hW0.alloc (.cells #[.int .i64 k, .int .i64 n, .string S, .slice A1 N c1] 24)
  have hba : Below W0.heap.size W0 (w.alloc (.cells #[.int .i64 k, .int .i64 n, .string S, .slice A1 N c1] 24)) := hb0.alloc hb0.size _
  have y1 : w.cell? ⟨p, 1, none⟩ = some (.bool b) := hW0.2.1.cell 1
  clear hS hN hZ hRow hSz hT0 hrg h1
  rcases hk8 with rfl | rfl | rfl | rfl | rfl | rfl | rfl | rfl
  · have hn := SM.kd_n1 hkd
    have hR := Lib.hid (fun w' (hb' : Below W0.heap.size W0 w') => text_any n (by omega) (by omega) w' ((hT0'.out).on hb'))
    have hil := Lib.itoa_length_le n (by omega) (by omega)
    have hon : Hid (SM.one b 1 n s (SM.tl b (decide ((1 : Int) = 7)) true is) = Lib.itoa n) := Lib.hid rfl
    rw [hon.out]
    clear hkd
    go_enter Tryd.func27, Tryd.ntmps27
    go_wp2_with (first
      | (go_at_call 32; refine (hR.out _ hba).mono ?_; rintro e w5 ⟨rfl, hb5⟩)
      | (go_at_call 31; refine (hPut.out _ v l (Lib.itoa n) (hWa.below hb5) (by omega)).mono ?_; rintro e w6 ⟨rfl, hW6, hc6⟩))
    go_end0
    exact ⟨rfl, hW6, Ch.of_alloc ((Ch.of_below hb5).trans hc6)⟩
  · have hn := SM.kd_n2 hkd
    have hR := Lib.hid (truth_any n)
    have hon : Hid (SM.one b 2 n s (SM.tl b (decide ((2 : Int) = 7)) true is) = (if n = 0 then [35, 102] else [35, 116])) := Lib.hid rfl
    rw [hon.out]
    obtain ⟨t, ht⟩ : ∃ t : List UInt8, (if n = 0 then [35, 102] else [35, 116]) = t := ⟨_, rfl⟩
    have htl : t.length = 2 := by rw [← ht]; split <;> rfl
    rw [ht] at hR ⊢
    clear hkd ht
    go_enter Tryd.func27, Tryd.ntmps27
    go_wp2_with (first
      | (go_at_call 33; refine (hR.out _).mono ?_; rintro e w5 ⟨rfl, hb5⟩)
      | (go_at_call 31; refine (hPut.out _ v l t (hWa.below hb5) (by omega)).mono ?_; rintro e w6 ⟨rfl, hW6, hc6⟩))
    go_end0
    exact ⟨rfl, hW6, Ch.of_alloc ((Ch.of_below hb5).trans hc6)⟩
  · have hn := SM.kd_n3 hkd
    have hR := Lib.hid (char_any _ B p v l b n hWa (by omega) hn.1 hn.2)
    have hon : Hid (SM.one b 3 n s (SM.tl b (decide ((3 : Int) = 7)) true is) = (if b then [UInt8.ofNat n.toNat] else SM.chr n)) := Lib.hid rfl
    rw [hon.out]
    obtain ⟨t, ht⟩ : ∃ t : List UInt8, (if b then [UInt8.ofNat n.toNat] else SM.chr n) = t := ⟨_, rfl⟩
    rw [ht] at hR ⊢
    clear hkd ht
    go_enter Tryd.func27, Tryd.ntmps27
    go_wp2_with (go_at_call 34; refine (hR.out).mono ?_; rintro e w5 ⟨rfl, hW6, hc6⟩)
    go_end0
    exact ⟨rfl, hW6, Ch.of_alloc hc6⟩
  · have hS5 := hSz'.out (.inl rfl)
    clear hkd
    have y1' : (w.alloc (.cells #[.int .i64 4, .int .i64 n, .string S, .slice A1 N c1] 24)).cell? ⟨p, 1, none⟩ = some (.bool b) := hWa.2.1.cell 1
    cases b
    · have hR := Lib.hid (quoted_any _ B p v l false S hWa (by omega) hS5)
      have hon : Hid (SM.one false 4 n s (SM.tl false (decide ((4 : Int) = 7)) true is) = SM.quo S.data.toList) := Lib.hid (by rw [hSs.out]; rfl)
      rw [hon.out]
      go_enter Tryd.func27, Tryd.ntmps27
      go_wp2_with (go_at_call 35; refine (hR.out).mono ?_; rintro e w5 ⟨rfl, hW6, hc6⟩)
      exact bodyPost_ret (v := .tuple #[]) (by simp [results, Tryd.results27, go_sem]) rfl ⟨rfl, hW6, Ch.of_alloc hc6⟩
    · have hR := Lib.hid (put_any _ B p v l S.data.toList true hWa (by rw [size_len]; omega))
      have hon : Hid (SM.one true 4 n s (SM.tl true (decide ((4 : Int) = 7)) true is) = S.data.toList) := Lib.hid (by rw [hSs.out]; rfl)
      rw [hon.out]
      rw [show (⟨S.data.toList.toArray⟩ : ByteArray) = S from by cases S; rfl] at hR
      go_enter Tryd.func27, Tryd.ntmps27
      go_wp2_with (go_at_call 31; refine (hR.out).mono ?_; rintro e w5 ⟨rfl, hW6, hc6⟩)
      go_end0
      exact ⟨rfl, hW6, Ch.of_alloc hc6⟩
  · have hS5 := hSz'.out (.inr rfl)
    clear hkd
    have hR := Lib.hid (put_any _ B p v l S.data.toList b hWa (by rw [size_len]; omega))
    have hon : Hid (SM.one b 5 n s (SM.tl b (decide ((5 : Int) = 7)) true is) = S.data.toList) := Lib.hid (by rw [hSs.out]; rfl)
    rw [hon.out]
    rw [show (⟨S.data.toList.toArray⟩ : ByteArray) = S from by cases S; rfl] at hR
    go_enter Tryd.func27, Tryd.ntmps27
    go_wp2_with (go_at_call 31; refine (hR.out).mono ?_; rintro e w5 ⟨rfl, hW6, hc6⟩)
    go_end0
    exact ⟨rfl, hW6, Ch.of_alloc hc6⟩
  · clear hkd
    have hR := Lib.hid (hRow'.out (.inl rfl) _ v l hba hWa (by omega))
    have hon : Hid (SM.one b 6 n s (SM.tl b (decide ((6 : Int) = 7)) true is) = 40 :: (SM.tl b (decide ((6 : Int) = 7)) true is ++ [41])) := Lib.hid rfl
    rw [hon.out]
    obtain ⟨t, ht⟩ : ∃ t : List UInt8, 40 :: (SM.tl b (decide ((6 : Int) = 7)) true is ++ [41]) = t := ⟨_, rfl⟩
    rw [ht] at hR ⊢
    clear ht
    go_enter Tryd.func27, Tryd.ntmps27
    go_wp2_with (go_at_call 36; refine (hR.out).mono ?_; rintro e w5 ⟨rfl, hW6, hc6⟩)
    go_end0
    exact ⟨rfl, hW6, Ch.of_alloc hc6⟩
  · clear hkd
    have hR := Lib.hid (hRow'.out (.inr (.inl rfl)) _ v l hba hWa (by omega))
    have hon : Hid (SM.one b 7 n s (SM.tl b (decide ((7 : Int) = 7)) true is) = 40 :: (SM.tl b (decide ((7 : Int) = 7)) true is ++ [41])) := Lib.hid rfl
    rw [hon.out]
    obtain ⟨t, ht⟩ : ∃ t : List UInt8, 40 :: (SM.tl b (decide ((7 : Int) = 7)) true is ++ [41]) = t := ⟨_, rfl⟩
    rw [ht] at hR ⊢
    clear ht
    go_enter Tryd.func27, Tryd.ntmps27
    go_wp2_with (go_at_call 36; refine (hR.out).mono ?_; rintro e w5 ⟨rfl, hW6, hc6⟩)
    go_end0
    exact ⟨rfl, hW6, Ch.of_alloc hc6⟩
  · clear hkd
    have hR := Lib.hid (fun w' v' => hRow'.out (.inr (.inr rfl)) w' v' (l ++ [35]))
    have hon : Hid (SM.one b 8 n s (SM.tl b (decide ((8 : Int) = 7)) true is) = 35 :: 40 :: (SM.tl b (decide ((8 : Int) = 7)) true is ++ [41])) := Lib.hid rfl
    rw [hon.out]
    obtain ⟨t, ht⟩ : ∃ t : List UInt8, 40 :: (SM.tl b (decide ((8 : Int) = 7)) true is ++ [41]) = t := ⟨_, rfl⟩
    rw [ht] at hR ⊢
    clear ht
    go_enter Tryd.func27, Tryd.ntmps27
    go_wp2_with (first
      | (go_at_call 31
         refine (hPut.out _ v l [35] hWa (by simp; omega)).mono ?_
         rintro e w5 ⟨rfl, ⟨v5, hW5⟩, hc5⟩
         have hM5 := hL.ch (by decide) (by omega) hc5
         have z0 := hM5.cell 0
         have z1 := hM5.cell 1
         have z2 := hM5.cell 2
         have z3 := hM5.cell 3
         simp only [List.getElem?_cons_succ, List.getElem?_cons_zero] at z0 z1 z2 z3
         have hb5 := Ch.from hba hB0 hBp (by simp; omega) hc5)
      | (go_at_call 36; refine (hR.out _ v5 hb5 hW5 (by simp; omega)).mono ?_; rintro e w6 ⟨rfl, hW6, hc6⟩))
    go_end0
    exact ⟨rfl, by simpa using hW6, Ch.of_alloc (hc5.trans hc6)⟩
theorem dt_any (x : RM.Dm) : DtOk x := RM.Dl.all_of DtOk dt_step (.one x) 0 x (by cases x; rfl)
end Go.Proofs.YtfkmknehoonlcaaDoor
