/- Package term: are a term's fields as its kind asks for? A kind at a time. -/
import Derived.Test.YtpiekdcbjkgipaaGreatQ14
import Derived.Test.YtpiekdcbjkgipaaGreatQ15
import Derived.Test.YtpiekdcbjkgipaaGreatQ16
import Derived.Test.YtpiekdcbjkgipaaGreatQ17
namespace Go.Proofs.YtpiekdcbjkgipaaGreat
open Go.ChangeShapes Go.WideShapes Go.ChangeAt Go.RowKit Go.Deep
open TM (Tl Tm)

section
variable (w : World) (q m : Nat) (met bd : List Int) (n : Int) (S : ByteArray) (P : Option Addr) (L p : Nat) (d : RM.Dm) (I : Option Addr) (c7 : Nat) (A : Option Addr) (N c : Nat)
set_option maxRecDepth 100000 in
set_option maxHeartbeats 8000000 in
theorem fit10 (hd : In w (.slice I d.is.len c7) d.is) (hN : N ≤ 9223372036854775807) (hP : L ≤ 9223372036854775807) :
    Calls Tryz.prog 69 #[.map (some q), .agg #[.int .i64 10, .int .i64 n, .string S, .slice P L p, .int .i64 d.k, .int .i64 d.n, .string ⟨d.s.toArray⟩, .slice I d.is.len c7, .slice A N c]] w
      fun e w' => e = .returned (.bool (decide (1 ≤ N) && decide (N ≤ 29) && decide (S.data.toList = []) && decide (L = 0) && decide (n = 0) && TM.nod d)) ∧ Went w w' := by
  have hM := hd.len
  have hE : Hid (∀ w' : World, Calls Tryz.prog 83 #[.agg #[.int .i64 d.k, .int .i64 d.n, .string ⟨d.s.toArray⟩, .slice I d.is.len c7]] w' fun e w'' => e = .returned (.bool (TM.nod d)) ∧ Went w' w'') := Lib.hid (fun w' => nothing_any w' d.k d.n ⟨d.s.toArray⟩ I d.is.len c7 hM)
  obtain ⟨db, hdb⟩ : ∃ db, TM.nod d = db := ⟨_, rfl⟩
  rw [hdb] at hE ⊢
  generalize d.is.len = M at hd hE hM ⊢
  generalize d.k = dk at hE ⊢
  generalize d.n = dn at hE ⊢
  generalize (⟨d.s.toArray⟩ : ByteArray) = dS at hE ⊢
  obtain ⟨se, hse0⟩ : ∃ se, decide (S.data.toList = []) = se := ⟨_, rfl⟩
  rw [hse0]
  have hse := Lib.hid hse0
  clear hse0
  have hL := Lies.made w 28 #[.int .i64 10, .int .i64 n, .string S, .slice P L p, .int .i64 dk, .int .i64 dn, .string dS, .slice I M c7, .slice A N c]
  have hb1 : Below w.heap.size w (w.alloc (.cells #[.int .i64 10, .int .i64 n, .string S, .slice P L p, .int .i64 dk, .int .i64 dn, .string dS, .slice I M c7, .slice A N c] 28)) := (Below.refl _ w).alloc (Nat.le_refl _) _
  clear hd hdb hM
  by_cases h29 : N ≤ 29
  · have e29 : decide ((29 : Int) < N) = false := decide_eq_false (by omega)
    have kc := Lib.hid (decide_eq_true h29)
    rw [kc.out]
    by_cases h9 : 1 ≤ N
    · have e9 : decide ((0 : Int) < N) = true := decide_eq_true (by omega)
      have kb := Lib.hid (decide_eq_true h9)
      rw [kb.out]
      by_cases hn0 : n = 0
      · subst hn0
        rcases Nat.eq_zero_or_pos S.size with hS | hS
        · obtain ⟨e1, e3, e4⟩ := empty_yes (s := S) hS
          obtain rfl : se = true := by rw [← hse.out]; exact decide_eq_true e4
          clear e4
          rcases Nat.eq_zero_or_pos L with rfl | hp0
          · cases db
            · go_enter Tryz.func69, Tryz.ntmps69
              go_wp2_with (first
                | (go_at_call 83; refine (hE.out _).mono ?_; rintro e w9 ⟨rfl, hb9⟩))
              go_ret
              first
                | exact ⟨ret_b (by simp), (Below.refl _ w).alloc (Nat.le_refl _) _⟩
                | exact ⟨ret_b (by simp), went_chain ((Below.refl _ w).alloc (Nat.le_refl _) _) hb9⟩
            · go_enter Tryz.func69, Tryz.ntmps69
              go_wp2_with (first
                | (go_at_call 83; refine (hE.out _).mono ?_; rintro e w9 ⟨rfl, hb9⟩))
              go_ret
              first
                | exact ⟨ret_b (by simp), (Below.refl _ w).alloc (Nat.le_refl _) _⟩
                | exact ⟨ret_b (by simp), went_chain ((Below.refl _ w).alloc (Nat.le_refl _) _) hb9⟩
          · have ep : ((L : Int) == 0) = false := by rw [beq_eq_false_iff_ne]; omega
            have pf : ¬ L = 0 := by omega
            go_enter Tryz.func69, Tryz.ntmps69
            go_wp2_with (first
              | (go_at_call 83; refine (hE.out _).mono ?_; rintro e w9 ⟨rfl, hb9⟩))
            go_ret
            first
              | exact ⟨ret_b (by simp), (Below.refl _ w).alloc (Nat.le_refl _) _⟩
              | exact ⟨ret_b (by simp [pf]), went_chain ((Below.refl _ w).alloc (Nat.le_refl _) _) hb9⟩
        · obtain ⟨e1, e3⟩ := empty_no (s := S) hS
          obtain rfl : se = false := by rw [← hse.out]; exact decide_eq_false (nonempty_list (S := S) hS)
          go_enter Tryz.func69, Tryz.ntmps69
          go_wp2_with (first
            | (go_at_call 83; refine (hE.out _).mono ?_; rintro e w9 ⟨rfl, hb9⟩))
          go_ret
          first
            | exact ⟨ret_b (by simp), (Below.refl _ w).alloc (Nat.le_refl _) _⟩
            | exact ⟨ret_b (by simp), went_chain ((Below.refl _ w).alloc (Nat.le_refl _) _) hb9⟩
      · go_enter Tryz.func69, Tryz.ntmps69
        go_wp2_with (first
          | (go_at_call 83; refine (hE.out _).mono ?_; rintro e w9 ⟨rfl, hb9⟩))
        go_ret
        first
          | exact ⟨ret_b (by simp), (Below.refl _ w).alloc (Nat.le_refl _) _⟩
          | exact ⟨ret_b (by simp [hn0]), went_chain ((Below.refl _ w).alloc (Nat.le_refl _) _) hb9⟩
    · obtain rfl : N = 0 := by omega
      go_enter Tryz.func69, Tryz.ntmps69
      go_wp2_with (first
        | (go_at_call 83; refine (hE.out _).mono ?_; rintro e w9 ⟨rfl, hb9⟩))
      go_ret
      first
        | exact ⟨ret_b (by simp), (Below.refl _ w).alloc (Nat.le_refl _) _⟩
        | exact ⟨ret_b (by simp), went_chain ((Below.refl _ w).alloc (Nat.le_refl _) _) hb9⟩
  · have e29 : decide ((29 : Int) < N) = true := decide_eq_true (by omega)
    go_enter Tryz.func69, Tryz.ntmps69
    go_wp2_with (first
      | (go_at_call 83; refine (hE.out _).mono ?_; rintro e w9 ⟨rfl, hb9⟩))
    go_ret
    first
      | exact ⟨ret_b (by simp), (Below.refl _ w).alloc (Nat.le_refl _) _⟩
      | exact ⟨ret_b (by simp [h29]), went_chain ((Below.refl _ w).alloc (Nat.le_refl _) _) hb9⟩
set_option maxRecDepth 100000 in
set_option maxHeartbeats 8000000 in
theorem fit_none (k : Int) (hk : k < 1 ∨ 10 < k) :
    Calls Tryz.prog 69 #[.map (some q), .agg #[.int .i64 (k), .int .i64 n, .string S, .slice P L p, .int .i64 d.k, .int .i64 d.n, .string ⟨d.s.toArray⟩, .slice I d.is.len c7, .slice A N c]] w
      fun e w' => e = .returned (.bool (false)) ∧ Went w w' := by
  generalize d.is.len = M
  generalize d.k = dk
  generalize d.n = dn
  generalize (⟨d.s.toArray⟩ : ByteArray) = dS
  have hL := Lies.made w 28 #[.int .i64 k, .int .i64 n, .string S, .slice P L p, .int .i64 dk, .int .i64 dn, .string dS, .slice I M c7, .slice A N c]
  have hb1 : Below w.heap.size w (w.alloc (.cells #[.int .i64 k, .int .i64 n, .string S, .slice P L p, .int .i64 dk, .int .i64 dn, .string dS, .slice I M c7, .slice A N c] 28)) := (Below.refl _ w).alloc (Nat.le_refl _) _
  have k1 : (k == 1) = false := by rw [beq_eq_false_iff_ne]; omega
  have k2 : (k == 2) = false := by rw [beq_eq_false_iff_ne]; omega
  have k3 : (k == 3) = false := by rw [beq_eq_false_iff_ne]; omega
  have k4 : (k == 4) = false := by rw [beq_eq_false_iff_ne]; omega
  have k5 : (k == 5) = false := by rw [beq_eq_false_iff_ne]; omega
  have k6 : (k == 6) = false := by rw [beq_eq_false_iff_ne]; omega
  have k7 : (k == 7) = false := by rw [beq_eq_false_iff_ne]; omega
  have k8 : (k == 8) = false := by rw [beq_eq_false_iff_ne]; omega
  have k9 : (k == 9) = false := by rw [beq_eq_false_iff_ne]; omega
  have k10 : (k == 10) = false := by rw [beq_eq_false_iff_ne]; omega
  have q1 : ¬ k = 1 := by omega
  have q2 : ¬ k = 2 := by omega
  have q3 : ¬ k = 3 := by omega
  have q4 : ¬ k = 4 := by omega
  have q5 : ¬ k = 5 := by omega
  have q6 : ¬ k = 6 := by omega
  have q7 : ¬ k = 7 := by omega
  have q8 : ¬ k = 8 := by omega
  have q9 : ¬ k = 9 := by omega
  have q10 : ¬ k = 10 := by omega
  go_enter Tryz.func69, Tryz.ntmps69
  go_wp2_with fail
  go_ret
  exact ⟨rfl, hb1⟩
end
end Go.Proofs.YtpiekdcbjkgipaaGreat

/- Package term: fits, whatever the kind; isRight. -/
namespace Go.Proofs.YtpiekdcbjkgipaaGreat
open Go.ChangeShapes Go.WideShapes Go.ChangeAt Go.RowKit Go.Deep
open TM (Tl Tm)

theorem ps_len (ps : List Int) : decide (ps = []) = decide (ps.length = 0) := by cases ps <;> simp
theorem fits_any (q m : Nat) (met bd : List Int) (t : Tm) (w : World) (vp vi vk : Value) (hT : TmIn w t vp vi vk) (hI : Im w q m (TM.ls met bd)) (h64 : b64 t.n) :
    Calls Tryz.prog 69 #[.map (some q), tmv t vp vi vk] w fun e w' => e = .returned (.bool (TM.fit bd t)) ∧ Went w w' := by
  obtain ⟨P, p, rfl⟩ := hT.p.read
  obtain ⟨I, c7, rfl⟩ := hT.d.read
  obtain ⟨A, c, rfl⟩ := hT.k.read
  have hP := hT.p.len
  have hN := hT.k.len
  have hd := hT.d
  obtain ⟨k, n, s, ps, d, ks⟩ := t
  unfold tmv
  simp only at hP hN hd h64 ⊢
  by_cases h1 : k = 1
  · subst h1
    exact (fit1 w q n ⟨s.toArray⟩ P ps.length p d I c7 A ks.len c hd hN hP).mono fun e w' h => ⟨h.1.trans (ret_b (by simp [TM.fit, ps_len])), h.2⟩
  by_cases h2 : k = 2
  · subst h2
    exact (fit2 w q m met bd n ⟨s.toArray⟩ P ps.length p d I c7 A ks.len c hd hN hP hI h64).mono fun e w' h => ⟨h.1.trans (ret_b (by simp [TM.fit, ps_len])), h.2⟩
  by_cases h3 : k = 3
  · subst h3
    exact (fit3 w q n ⟨s.toArray⟩ P ps.length p d I c7 A ks.len c hd hN hP).mono fun e w' h => ⟨h.1.trans (ret_b (by simp [TM.fit, ps_len])), h.2⟩
  by_cases h4 : k = 4
  · subst h4
    exact (fit4 w q m met bd n ⟨s.toArray⟩ P ps.length p d I c7 A ks.len c hd hN hP hI h64).mono fun e w' h => ⟨h.1.trans (ret_b (by simp [TM.fit, ps_len])), h.2⟩
  by_cases h5 : k = 5
  · subst h5
    exact (fit5 w q n ⟨s.toArray⟩ P ps.length p d I c7 A ks.len c hd hN hP).mono fun e w' h => ⟨h.1.trans (ret_b (by simp [TM.fit, ps_len])), h.2⟩
  by_cases h6 : k = 6
  · subst h6
    exact (fit6 w q n ⟨s.toArray⟩ P ps.length p d I c7 A ks.len c hd hN hP).mono fun e w' h => ⟨h.1.trans (ret_b (by simp [TM.fit, ps_len])), h.2⟩
  by_cases h7 : k = 7
  · subst h7
    exact (fit7 w q n ⟨s.toArray⟩ P ps.length p d I c7 A ks.len c hd hN hP).mono fun e w' h => ⟨h.1.trans (ret_b (by simp [TM.fit, ps_len])), h.2⟩
  by_cases h8 : k = 8
  · subst h8
    exact (fit8 w q n ⟨s.toArray⟩ P ps.length p d I c7 A ks.len c hd hN hP).mono fun e w' h => ⟨h.1.trans (ret_b (by simp [TM.fit, TM.tak, ps_len, Bool.and_assoc])), h.2⟩
  by_cases h9 : k = 9
  · subst h9
    exact (fit9 w q n ⟨s.toArray⟩ P ps.length p d I c7 A ks.len c hd hN hP).mono fun e w' h => ⟨h.1.trans (ret_b (by simp [TM.fit, ps_len])), h.2⟩
  by_cases h10 : k = 10
  · subst h10
    exact (fit10 w q n ⟨s.toArray⟩ P ps.length p d I c7 A ks.len c hd hN hP).mono fun e w' h => ⟨h.1.trans (ret_b (by simp [TM.fit, ps_len])), h.2⟩
  exact (fit_none w q n ⟨s.toArray⟩ P ps.length p d I c7 A ks.len c k (by omega)).mono fun e w' h => ⟨h.1.trans (ret_b (by simp [TM.fit, h1, h2, h3, h4, h5, h6, h7, h8, h9, h10])), h.2⟩

namespace TM
theorem fit_len {bd : List Int} {t : Tm} (h : fit bd t = true) : t.ps.length ≤ 24 := by
  have z : t.ps = [] → t.ps.length ≤ 24 := fun h => by rw [h]; simp
  unfold fit at h
  split at h
  · exact z (by simp at h; exact h.1.1.2)
  split at h
  · exact z (by simp at h; exact h.1.1.2)
  split at h
  · exact z (by simp at h; exact h.1.1.1.2)
  split at h
  · exact z (by simp at h; exact h.1.1.2)
  split at h
  · exact z (by simp at h; exact h.1.1.1.2)
  split at h
  · exact z (by simp at h; exact h.1.1.2)
  split at h
  · simp at h; exact h.1.1.2
  split at h
  · exact z (by simp at h; exact h.1.1.2)
  split at h
  · exact z (by simp at h; exact h.1.1.2)
  · simp at h
theorem sz_app : ∀ a b : Tl, sz (a.app b) = sz a + sz b
  | .nil, b => by simp [Tl.app, sz]
  | .cons k n s ps d ks r, b => by rw [Tl.app, sz, sz, sz_app r b]; omega
theorem sz_tk (d : Tl) (i : Nat) : sz (d.tk i) + sz (d.dr i) = sz d := by rw [← sz_app, Tl.tk_dr]
theorem frs_nodup : ∀ (met l : List Int), frs met l = true → l.Nodup ∧ ∀ p ∈ l, met.contains p = false
  | met, [], _ => ⟨List.nodup_nil, by simp⟩
  | met, p :: r, h => by
    simp only [frs, Bool.and_eq_true, Bool.not_eq_true', decide_eq_true_eq] at h
    obtain ⟨i1, i2⟩ := frs_nodup (met ++ [p]) r h.2
    refine ⟨List.nodup_cons.2 ⟨fun hh => by have := i2 p hh; simp at this, i1⟩, fun x hx => ?_⟩
    rcases List.mem_cons.1 hx with rfl | hx
    · exact h.1.2
    · have := i2 x hx
      simp at this ⊢
      exact this.1
end TM
def TrtOk (t : Tm) : Prop := ∀ (w0 w : World) (q n : Nat) (met bd : List Int) (D : Int) (vp vi vk : Value), TmIn w0 t vp vi vk → TmBd t → Below w0.heap.size w0 w → w0.heap.size ≤ q → Im w q n (TM.ls met bd) → (∀ x, bd.contains x = true → met.contains x = true) → n + 24 * (TM.sz t.ks + 1) ≤ 1000000 → 1 ≤ D → D ≤ 201 →
  Calls Tryz.prog 53 #[.map (some q), tmv t vp vi vk, .int .i64 D] w (LocsN q (n + 24 * (TM.sz t.ks + 1)) (met ++ (t.ps ++ TM.prs t.ks)) bd (decide (D + (TM.hi t.ks : Int) ≤ 200) && (TM.ok1 bd t && TM.frs met (t.ps ++ TM.prs t.ks))) w)
theorem below_of_turns {w0 w w' : World} {q : Nat} (hb : Below w0.heap.size w0 w) (hT : Turns (fun g => g = q) w w') (hq : w0.heap.size ≤ q) : Below w0.heap.size w0 w' :=
  ⟨hT.os.trans hb.os, hT.tape.trans hb.tape, hT.output.trans hb.output, Nat.le_trans hb.size hT.size, fun i hi => (hT.block i (Nat.lt_of_lt_of_le hi hb.size) (by omega)).trans (hb.block i hi)⟩
set_option maxRecDepth 100000 in
set_option maxHeartbeats 8000000 in
theorem trt_step (k n : Int) (s : List UInt8) (ps : List Int) (d : RM.Dm) (ks : Tl) (hR : ∀ i x, ks.at_ i = some x → TrtOk x) : TrtOk ⟨k, n, s, ps, d, ks⟩ := by
  intro w0 w q m met bd D vp vi vk hT hB hb hq hI hbm hm hD1 hD2
  obtain ⟨P3, p3, rfl⟩ := hT.p.read
  obtain ⟨I7, q7, rfl⟩ := hT.d.read
  obtain ⟨A1, c1, rfl⟩ := hT.k.read
  have hlen := hT.k.len
  have hTk := hT.k
  have hql := hI.lt
  simp only at hlen hTk hm ⊢
  obtain ⟨RES, hRES⟩ : ∃ b, (decide (D + (TM.hi ks : Int) ≤ 200) && (TM.ok1 bd ⟨k, n, s, ps, d, ks⟩ && TM.frs met (ps ++ TM.prs ks))) = b := ⟨_, rfl⟩
  rw [hRES]
  rw [TM.frs_app, TM.ok1] at hRES
  simp only at hRES
  obtain ⟨N, hN⟩ : ∃ N, ks.len = N := ⟨_, rfl⟩
  have hF := Lib.hid (fun (w' : World) (hb' : Below w0.heap.size w0 w') (hI' : Im w' q m (TM.ls met bd)) => fits_any q m met bd ⟨k, n, s, ps, d, ks⟩ w' _ _ _ (hT.below hb') hI' hB.n)
  have hfl := @TM.fit_len bd ⟨k, n, s, ps, d, ks⟩
  obtain ⟨fb, hfb⟩ : ∃ fb, TM.fit bd ⟨k, n, s, ps, d, ks⟩ = fb := ⟨_, rfl⟩
  rw [hfb] at hF hRES hfl
  have hE := Lib.hid (fun (w' : World) (hb' : Below w0.heap.size w0 w') (hI' : Im w' q m (TM.ls met bd)) (hfb : fb = true) => enter_any q m met bd ps w0 w' _ hT.p hb' hq hI' hbm hB.p (by omega) (by have := hfl hfb; simp only at this; omega))
  obtain ⟨eb, heb⟩ : ∃ eb, TM.frs met ps = eb := ⟨_, rfl⟩
  have hnd := TM.frs_nodup met ps
  rw [heb] at hE hRES hnd
  have hps := hT.p
  have hBp := hB.p
  have hBk := hB.ks
  simp only at hps hBp hBk
  unfold tmv at hF ⊢
  simp only at hF ⊢
  rw [hN] at hF hTk hlen ⊢
  obtain ⟨L3, hL3⟩ : ∃ x, ps.length = x := ⟨_, rfl⟩
  obtain ⟨L7, hL7⟩ : ∃ x, d.is.len = x := ⟨_, rfl⟩
  rw [hL3] at hF hE hps ⊢
  rw [hL7] at hF ⊢
  have hL := Lies.made w 28 #[.int .i64 k, .int .i64 n, .string ⟨s.toArray⟩, .slice P3 L3 p3, .int .i64 d.k, .int .i64 d.n, .string ⟨d.s.toArray⟩, .slice I7 L7 q7, .slice A1 N c1]
  have hba : Below w.heap.size w (w.alloc (.cells #[.int .i64 k, .int .i64 n, .string ⟨s.toArray⟩, .slice P3 L3 p3, .int .i64 d.k, .int .i64 d.n, .string ⟨d.s.toArray⟩, .slice I7 L7 q7, .slice A1 N c1] 28)) := (Below.refl _ w).alloc (Nat.le_refl _) _
  have hb1 := hb.trans (hba.mono hb.size)
  have hI1 := Lib.hid (hI.below hba)
  have hT1 := Lib.hid (Turns.of_below hba (fun g => g = q))
  have hN' := Lib.hid hN
  have hR' := Lib.hid hR
  have hRES' := Lib.hid hRES
  have hbm' := Lib.hid hbm
  have hnd' := Lib.hid hnd
  have hBp' := Lib.hid hBp
  have hm' := Lib.hid hm
  have hfl' := Lib.hid hfl
  have hL3' := Lib.hid hL3
  clear hT hB hI hN hR hRES hbm hfb heb hL7 hba hfl hnd hBp hm hL3
  by_cases hd : D ≤ 200
  · cases fb
    · have hRf : RES = false := by rw [← hRES'.out]; simp
      subst hRf
      go_enter Tryz.func53, Tryz.ntmps53
      go_wp2_with (
        go_at_call 69
        refine (hF.out _ hb1 hI1.out).mono ?_
        rintro e w2 ⟨rfl, hb2⟩
        have hT2 := hT1.out.then (Turns.of_below hb2 (fun _ => False)) (fun _ _ h => h.elim)
        clear hb2)
      go_ret
      exact ⟨rfl, hT2, fun h => by simp at h⟩
    · have hE1 := Lib.hid (fun (w' : World) (hb' : Below w0.heap.size w0 w') (hI' : Im w' q m (TM.ls met bd)) => hE.out w' hb' hI' rfl)
      have h24 : L3 ≤ 24 := by have := hfl'.out rfl; rw [← hL3'.out]; exact this
      cases eb
      · have hRf : RES = false := by rw [← hRES'.out]; simp
        subst hRf
        go_enter Tryz.func53, Tryz.ntmps53
        go_wp2_with (first
          | (go_at_call 69
             refine (hF.out _ hb1 hI1.out).mono ?_
             rintro e w2 ⟨rfl, hb2⟩
             have hb3 := hb1.trans (hb2.mono hb1.size)
             have hI2 := Lib.hid (hI1.out.below hb2)
             have hM2 := hL.below hb2 hL.lt
             have z3 := hM2.cell 3
             simp only [List.getElem?_cons_succ, List.getElem?_cons_zero] at z3
             have hT2 := hT1.out.then (Turns.of_below hb2 (fun _ => False)) (fun _ _ h => h.elim)
             clear hb2)
          | (go_at_call 70
             refine (hE1.out _ hb3 hI2.out).mono ?_
             rintro e w4 ⟨rfl, hT4, -⟩
             have hT5 := hT2.then hT4 (fun _ _ h => h)))
        go_ret
        exact ⟨rfl, hT5, fun h => by simp at h⟩
      · obtain ⟨hnd1, hnd2⟩ := hnd'.out rfl
        have hnd1' := Lib.hid hnd1
        have hnd2' := Lib.hid hnd2
        have hqne : w.heap.size ≠ q := by omega
        clear hnd1 hnd2
        go_enter Tryz.func53, Tryz.ntmps53
        go_wp2_with (first
          | (go_at_call 69
             refine (hF.out _ hb1 hI1.out).mono ?_
             rintro e w2 ⟨rfl, hb2⟩
             have hb3 := hb1.trans (hb2.mono hb1.size)
             have hI2 := Lib.hid (hI1.out.below hb2)
             have hM2 := hL.below hb2 hL.lt
             have z3 := hM2.cell 3
             simp only [List.getElem?_cons_succ, List.getElem?_cons_zero] at z3
             have hT2 := Lib.hid (hT1.out.then (Turns.of_below hb2 (fun _ => False)) (fun _ _ h => h.elim))
             clear hb2)
          | (go_at_call 70
             refine (hE1.out _ hb3 hI2.out).mono ?_
             rintro e w4 ⟨rfl, hT4, hI4⟩
             have hM4 := hM2.turns hT4 hqne
             have z8 : w4.cell? ⟨w.heap.size, 8, none⟩ = some (.slice A1 N c1) := hM4.cell 8
             have hI4' := Lib.hid (hI4 rfl)
             have hT5 := Lib.hid (hT2.out.then hT4 (fun _ _ h => h))
             have hb5 := Lib.hid (below_of_turns hb3 hT4 hq)
             clear hT4 hI4 z3))
        clear hF hE hE1
        obtain ⟨n4, hn4, hI4⟩ := hI4'.out
        have hI4h := Lib.hid hI4
        clear hI4 hI4'
        go_loopw [27] (fun i wr => ∃ (j n' : Nat), j ≤ N ∧ i = .int .i64 j ∧ Hid (RES = (decide (D + (TM.hi (ks.dr j) : Int) ≤ 200) && (TM.rtl (bd ++ ps) (ks.dr j) && TM.frs (met ++ ps ++ TM.prs (ks.tk j)) (TM.prs (ks.dr j))))) ∧ Im wr q n' (TM.ls (met ++ ps ++ TM.prs (ks.tk j)) (bd ++ ps)) ∧ n' ≤ m + 24 * (TM.sz (ks.tk j) + 1)
            ∧ Lies wr w.heap.size 28 [.int .i64 k, .int .i64 n, .string ⟨s.toArray⟩, .slice P3 L3 p3, .int .i64 d.k, .int .i64 d.n, .string ⟨d.s.toArray⟩, .slice I7 L7 q7, .slice A1 N c1] ∧ Below w0.heap.size w0 wr ∧ Turns (fun g => g = q) w wr) (fun i _ => N - (intOf i).toNat)
        case atStart =>
          refine ⟨0, n4, Nat.zero_le _, rfl, Lib.hid ?_, ?_, ?_, hM4, hb5.out, hT5.out⟩
          · rw [← hRES'.out, Tl.dr_zero, Tl.tk_zero]
            simp [TM.prs]
          · rw [Tl.tk_zero]
            simpa [TM.prs] using hI4h.out
          · rw [Tl.tk_zero]
            simp [TM.sz]; omega
        case round =>
          obtain ⟨j, n', hj, rfl, hRj, hIj, hnj, hMj, hbj, hTj⟩ := hrel
          have hIj' := Lib.hid hIj
          have hTj' := Lib.hid hTj
          have hnj' := Lib.hid hnj
          have y8 : wr.cell? ⟨w.heap.size, 8, none⟩ = some (.slice A1 N c1) := hMj.cell 8
          have y3 : wr.cell? ⟨w.heap.size, 3, none⟩ = some (.slice P3 L3 p3) := hMj.cell 3
          clear hIj hTj hnj hL hb1 hI1 hT1 hI2 hM2 hM4 z8 hT2 hT5 hb5 hI4h hn4 hb3
          by_cases hlt : j < N
          · obtain ⟨x, hx⟩ := ks.at_some j (by rw [hN'.out]; exact hlt)
            obtain ⟨b, o, P5, p5, I5, q5, K5, r5, rfl, hb0, p0, p1, p2, pp, p4, p55, p6, pi, pk, hT5⟩ := hTk.at_ hx
            have ce : ∀ o, wr.cell? ⟨b, o, none⟩ = w0.cell? ⟨b, o, none⟩ := fun o => hbj.cell (p := ⟨b, o, none⟩) hb0
            rw [← ce] at p0 p1 p2 pp p4 p55 p6 pi pk
            have hxh := TM.hi_at hx
            have hxr := TM.rtl_at (bd := bd ++ ps) hx
            have hxp := TM.prs_at hx
            have hxs := TM.sz_at hx
            have hst := TM.sz_tk ks j
            have htk := Tl.tk_snoc ks j x hx
            have hpt : TM.prs (ks.tk (j + 1)) = TM.prs (ks.tk j) ++ (x.ps ++ TM.prs x.ks) := by rw [htk, TM.prs_snoc]
            have hzt : TM.sz (ks.tk (j + 1)) = TM.sz (ks.tk j) + (TM.sz x.ks + 1) := by rw [htk, Tl.snoc, TM.sz_app]; simp [Tl.one, TM.sz]
            have hbb : ∀ y, (bd ++ ps).contains y = true → (met ++ ps ++ TM.prs (ks.tk j)).contains y = true := fun y hy => by
              have h2 := hbm'.out y
              simp at hy h2 ⊢
              rcases hy with hy | hy
              · exact .inl (h2 hy)
              · exact .inr (.inl hy)
            have hbd : n' + 24 * (TM.sz x.ks + 1) ≤ 1000000 := by
              have h1 := hnj'.out
              have h2 := hm'.out
              omega
            have hC := Lib.hid (fun (w' : World) (hb' : Below w0.heap.size w0 w') (hI' : Im w' q n' (TM.ls (met ++ ps ++ TM.prs (ks.tk j)) (bd ++ ps))) => hR'.out j x hx w0 w' q n' _ _ (D + 1) _ _ _ hT5 (hBk.at_ hx) hb' hq hI' hbb hbd (by omega) (by omega))
            obtain ⟨bx, hbx⟩ : ∃ bx, (decide (D + 1 + (TM.hi x.ks : Int) ≤ 200) && (TM.ok1 (bd ++ ps) x && TM.frs (met ++ ps ++ TM.prs (ks.tk j)) (x.ps ++ TM.prs x.ks))) = bx := ⟨_, rfl⟩
            rw [hbx] at hC
            have hno : bx = false → RES = false := fun h => by
              rw [hRj.out, hxr, hxp, ← List.append_assoc x.ps, TM.frs_app]
              rw [← hbx] at h
              rcases Bool.and_eq_false_iff.1 h with h | h
              · rw [decide_eq_false (by have := of_decide_eq_false h; omega)]; simp
              · rcases Bool.and_eq_false_iff.1 h with h | h
                · rw [TM.ok1] at h
                  rw [h]; simp
                · rw [h]; simp
            have hgo : bx = true → RES = (decide (D + (TM.hi (ks.dr (j + 1)) : Int) ≤ 200) && (TM.rtl (bd ++ ps) (ks.dr (j + 1)) && TM.frs (met ++ ps ++ TM.prs (ks.tk (j + 1))) (TM.prs (ks.dr (j + 1))))) := fun h => by
              rw [hRj.out, hxr, hxp, ← List.append_assoc x.ps, TM.frs_app]
              rw [← hbx] at h
              simp only [Bool.and_eq_true] at h
              obtain ⟨h1, h2, h3⟩ := h
              rw [TM.ok1] at h2
              rw [h2, h3, Bool.true_and, Bool.true_and, hpt]
              simp only [List.append_assoc]
              congr 1
              have := of_decide_eq_true h1
              rw [decide_eq_decide]
              omega
            have hno' := Lib.hid hno
            have hgo' := Lib.hid hgo
            have hpt' := Lib.hid hpt
            have hzt' := Lib.hid hzt
            unfold tmv at hC
            have hKa : Below wr.heap.size wr (wr.alloc (.cells #[.int .i64 x.k, .int .i64 x.n, .string ⟨x.s.toArray⟩, .slice P5 x.ps.length p5, .int .i64 x.d.k, .int .i64 x.d.n, .string ⟨x.d.s.toArray⟩, .slice I5 x.d.is.len q5, .slice K5 x.ks.len r5] 28)) := (Below.refl _ wr).alloc (Nat.le_refl _) _
            have hIk := Lib.hid (hIj'.out.below hKa)
            have hMk := hMj.alloc (.cells #[.int .i64 x.k, .int .i64 x.n, .string ⟨x.s.toArray⟩, .slice P5 x.ps.length p5, .int .i64 x.d.k, .int .i64 x.d.n, .string ⟨x.d.s.toArray⟩, .slice I5 x.d.is.len q5, .slice K5 x.ks.len r5] 28)
            have hbk := hbj.trans (hKa.mono hbj.size)
            have hTk2 := Lib.hid (hTj'.out.then (Turns.of_below hKa (fun _ => False)) (fun _ _ h => h.elim))
            clear hx hT5 hxh hxr hxp hxs hst htk hpt hzt hbb hbx hno hgo hKa ce
            cases bx
            · obtain rfl := hno'.out rfl
              go_wp2_with (
                go_at_call 53
                refine (hC.out _ hbk hIk.out).mono ?_
                rintro e w7 ⟨rfl, hT7, -⟩
                have hT8 := hTk2.out.then hT7 (fun _ _ h => h))
              go_ret
              exact ⟨rfl, hT8, fun h => by simp at h⟩
            · go_wp2_with (
                go_at_call 53
                refine (hC.out _ hbk hIk.out).mono ?_
                rintro e w7 ⟨rfl, hT7, hI7⟩
                have hT8 := Lib.hid (hTk2.out.then hT7 (fun _ _ h => h))
                have hM8 := hMk.turns hT7 hqne
                have hb8 := Lib.hid (below_of_turns hbk hT7 hq)
                have hI8 := Lib.hid (hI7 rfl)
                clear hT7 hI7)
              go_roundw
              case rel =>
                obtain ⟨n8, hn8, hI9⟩ := hI8.out
                exact ⟨j + 1, n8, by omega, by go_num, Lib.hid (hgo'.out trivial), by rw [hpt'.out, ← List.append_assoc]; exact hI9, by rw [hzt'.out]; have := hnj'.out; omega, hM8, hb8.out, hT8.out⟩
              case measure => simp [intOf]; omega
          · obtain rfl : j = N := by omega
            have hend : ks.len ≤ j := by rw [hN'.out]; exact Nat.le_refl _
            have hall : ks.tk j = ks := by rw [← hN'.out]; exact Tl.tk_all ks
            have hRt : RES = true := by
              rw [hRj.out, Tl.dr_end ks j hend]
              simp [TM.hi, TM.rtl, TM.prs, TM.frs]; omega
            subst hRt
            have hLv := Lib.hid (leave_any q n' (met ++ ps ++ TM.prs (ks.tk j)) bd ps w0 wr _ hps hbj hq hIj'.out (fun p hp => ⟨by simp [hp], by
                have h1 := hnd2'.out p hp
                have h2 := hbm'.out p
                cases hh : bd.contains p
                · rfl
                · rw [h2 hh] at h1; simp at h1⟩) hnd1'.out hBp'.out (by have h1 := hnj'.out; have h2 := hm'.out; have h3 := TM.sz_tk ks j; omega) (by rw [hL3'.out]; omega))
            have hall' := Lib.hid hall
            clear hall hend
            go_wp2_with (
              go_at_call 71
              refine hLv.out.mono ?_
              rintro e w7 ⟨rfl, hI7, hT7⟩
              have hT8 := Lib.hid (hTj'.out.then hT7 (fun _ _ h => h))
              have hI8 := Lib.hid hI7
              clear hI7 hT7)
            go_ret
            refine ⟨rfl, hT8.out, fun _ => ⟨n', ?_, ?_⟩⟩
            · have := hnj'.out
              rw [hall'.out] at this
              exact this
            · have := hI8.out
              rw [hall'.out, List.append_assoc] at this
              exact this
  · have hRf : RES = false := by
      rw [← hRES'.out, decide_eq_false (by omega)]; simp
    subst hRf
    go_enter Tryz.func53, Tryz.ntmps53
    go_wp2_with fail
    go_ret
    exact ⟨rfl, hT1.out, fun h => by simp at h⟩
theorem isRight_any (t : Tm) : TrtOk t := Tl.all_one TrtOk trt_step t
end Go.Proofs.YtpiekdcbjkgipaaGreat
