/- Package datum: is a datum nothing at all (Nothing); may it be quoted (Quotable). -/
import Derived.Test.YtpiekdcbjkgipaaQ7
import Derived.Test.YtpiekdcbjkgipaaQ21
import Derived.Test.YtpiekdcbjkgipaaQ12
import Derived.Test.YtpiekdcbjkgipaaQ13
namespace Go.Proofs.Ytpiekdcbjkgipaa
open Go.ChangeShapes Go.WideShapes Go.ChangeAt Go.RowKit Go.Deep
theorem went_box9 (w : World) (vs : Array Value) (t : TypeId) : Went w (w.alloc (.cells vs t)) := (Below.refl _ w).alloc (Nat.le_refl _) _
set_option maxRecDepth 100000 in
theorem nothing_any (w : World) (k n : Int) (S : ByteArray) (A : Option Addr) (L c : Nat) (hL : L ≤ 9223372036854775807) :
    Calls Try.prog 48 #[.agg #[.int .i64 k, .int .i64 n, .string S, .slice A L c]] w fun e w' => e = .returned (.bool (decide (k = 0) && decide (n = 0) && decide (S.data.toList = []) && decide (L = 0))) ∧ Went w w' := by
  by_cases h1 : k = 0
  · subst h1
    by_cases h2 : n = 0
    · subst h2
      rcases Nat.eq_zero_or_pos S.size with h3 | h3
      · obtain ⟨e1, e3, e4⟩ := empty_yes (s := S) h3
        have e4' := Lib.hid e4
        clear e4
        rcases Nat.eq_zero_or_pos L with rfl | h0
        all_goals
          go_enter Try.func48, Try.ntmps48
          go_wp2_with fail
          go_ret
          exact ⟨ret_b (by rw [e4'.out]; simp; first | done | (rw [decide_eq_false (by omega), beq_eq_false_iff_ne]; omega)), went_box9 _ _ _⟩
      · obtain ⟨e1, e3⟩ := empty_no (s := S) h3
        have e4 : S.data.toList ≠ [] := fun h => by
          have := size_len S
          rw [h] at this
          simp at this; omega
        have e4' := Lib.hid e4
        clear e4
        go_enter Try.func48, Try.ntmps48
        go_wp2_with fail
        go_ret
        exact ⟨ret_b (by rw [decide_eq_false e4'.out]; simp), went_box9 _ _ _⟩
    · go_enter Try.func48, Try.ntmps48
      go_wp2_with fail
      go_ret
      exact ⟨ret_b (by simp [h2]), went_box9 _ _ _⟩
  · go_enter Try.func48, Try.ntmps48
    go_wp2_with fail
    go_ret
    exact ⟨ret_b (by simp [h1]), went_box9 _ _ _⟩
set_option maxRecDepth 100000 in
set_option maxHeartbeats 2000000 in
theorem quotable_any (x : RM.Dm) (w : World) (A : Option Addr) (c : Nat) (h : In w (.slice A x.is.len c) x.is) :
    Calls Try.prog 45 #[dtv x (.slice A x.is.len c)] w fun e w' => e = .returned (.bool (TM.quo x)) ∧ Went w w' := by
  have hlen := h.len
  have hq : ∀ n, (x.k = 0 → x.n ≠ 1 → n = x.n) → (x.k = 0 → x.n = 1 → n = 0) → (x.k ≠ 0 → n = x.n) →
      ((decide (x.k = 0) && decide (n = 0) && decide (x.s = []) && decide (x.is.len = 0)) || SM.okd ⟨x.k, n, x.s, x.is⟩) = TM.quo x := by
    intro n h1 h2 h3
    by_cases h0 : x.k = 0
    · have e : SM.okd ⟨x.k, n, x.s, x.is⟩ = false := by
        unfold SM.okd SM.kd
        simp [h0]
      rw [e]
      unfold TM.quo
      rw [if_pos h0]
      by_cases h4 : x.n = 1
      · rw [h2 h0 h4]; simp [h0, h4]
      · rw [h1 h0 h4]; simp [h0, h4]
    · rw [h3 h0]
      unfold TM.quo
      rw [if_neg h0]
      simp [h0]
  obtain ⟨n1, h1, h2, h3⟩ : ∃ n1, (x.k = 0 → x.n ≠ 1 → n1 = x.n) ∧ (x.k = 0 → x.n = 1 → n1 = 0) ∧ (x.k ≠ 0 → n1 = x.n) := by
    by_cases h : x.k = 0 ∧ x.n = 1
    · exact ⟨0, fun _ h2 => absurd h.2 h2, fun _ _ => rfl, fun h2 => absurd h.1 h2⟩
    · exact ⟨x.n, fun _ _ => rfl, fun ha hb => absurd ⟨ha, hb⟩ h, fun _ => rfl⟩
  have hqq := hq n1 h1 h2 h3
  have hC := Lib.hid (fun (w' : World) (hb : Below w.heap.size w w') => check_any ⟨x.k, n1, x.s, x.is⟩ w' (.slice A x.is.len c) (h.below hb))
  have hE := Lib.hid (fun (w' : World) => nothing_any w' x.k n1 ⟨x.s.toArray⟩ A x.is.len c hlen)
  obtain ⟨q, hqe⟩ : ∃ q, TM.quo x = q := ⟨_, rfl⟩
  rw [hqe] at hqq ⊢
  simp only at hE
  obtain ⟨nb, hnb⟩ : ∃ nb, (decide (x.k = 0) && decide (n1 = 0) && decide (x.s = []) && decide (x.is.len = 0)) = nb := ⟨_, rfl⟩
  obtain ⟨cb, hcb⟩ : ∃ cb, SM.okd ⟨x.k, n1, x.s, x.is⟩ = cb := ⟨_, rfl⟩
  rw [hnb] at hqq hE
  rw [hcb] at hqq hC
  unfold dtv at hC ⊢
  simp only at hC ⊢
  generalize x.is.len = N at hC hE hlen ⊢
  generalize (⟨x.s.toArray⟩ : ByteArray) = S at hC hE ⊢
  generalize x.k = k at hC hE h1 h2 h3 ⊢
  generalize x.n = n at h1 h2 h3 ⊢
  clear hnb hcb hqe hq h
  subst hqq
  have hL := Lies.made w 29 #[.int .i64 k, .int .i64 n, .string S, .slice A N c]
  have hb0 : Below w.heap.size w (w.alloc (.cells #[.int .i64 k, .int .i64 n, .string S, .slice A N c] 29)) := (Below.refl _ w).alloc (Nat.le_refl _) _
  by_cases h0 : k = 0 ∧ n = 1
  · obtain ⟨rfl, rfl⟩ := h0
    obtain rfl := h2 rfl rfl
    clear h1 h2 h3
    have hL2 := Lies.made w 29 #[.int .i64 0, .int .i64 0, .string S, .slice A N c]
    have hb1 : Below w.heap.size w (w.alloc (.cells #[.int .i64 0, .int .i64 0, .string S, .slice A N c] 29)) := (Below.refl _ w).alloc (Nat.le_refl _) _
    clear hL hb0
    cases nb <;> cases cb
    all_goals
      unfold chv at hC
      go_enter Try.func45, Try.ntmps45
      go_wp2_with (first
        | (go_at_call 48
           refine (hE.out _).mono ?_
           rintro e w2 ⟨rfl, hb2⟩
           have hL3 := hL2.below hb2 hL2.lt
           have hb3 : Below w.heap.size w w2 := hb1.trans (hb2.mono hb1.size)
           have z0 := hL3.cell 0
           have z1 := hL3.cell 1
           have z2 := hL3.cell 2
           have z3 := hL3.cell 3
           simp only [List.getElem?_cons_succ, List.getElem?_cons_zero] at z0 z1 z2 z3
           clear hb2)
        | (go_at_call 61
           refine (hC.out _ hb3).mono ?_
           rintro e w4 ⟨rfl, hb4⟩
           have hb5 : Below w.heap.size w w4 := hb3.trans (hb4.mono hb3.size)
           clear hb4))
      go_ret
      exact ⟨rfl, by assumption⟩
  · have hnn : n1 = n := by
      by_cases h4 : k = 0
      · exact h1 h4 (fun h5 => h0 ⟨h4, h5⟩)
      · exact h3 h4
    subst hnn
    clear h1 h2 h3
    have y0 := hL.cell 0
    have y1 := hL.cell 1
    have y2 := hL.cell 2
    have y3 := hL.cell 3
    simp only [List.getElem?_cons_succ, List.getElem?_cons_zero] at y0 y1 y2 y3
    by_cases h6 : k = 0
    · subst h6
      have h7 : ¬ n1 = 1 := fun h => h0 ⟨rfl, h⟩
      clear h0
      cases nb <;> cases cb
      all_goals
        unfold chv at hC
        go_enter Try.func45, Try.ntmps45
        go_wp2_with (first
          | (go_at_call 48
             refine (hE.out _).mono ?_
             rintro e w2 ⟨rfl, hb2⟩
             have hL3 := hL.below hb2 hL.lt
             have hb3 : Below w.heap.size w w2 := hb0.trans (hb2.mono hb0.size)
             have z0 := hL3.cell 0
             have z1 := hL3.cell 1
             have z2 := hL3.cell 2
             have z3 := hL3.cell 3
             simp only [List.getElem?_cons_succ, List.getElem?_cons_zero] at z0 z1 z2 z3
             clear hb2)
          | (go_at_call 61
             refine (hC.out _ hb3).mono ?_
             rintro e w4 ⟨rfl, hb4⟩
             have hb5 : Below w.heap.size w w4 := hb3.trans (hb4.mono hb3.size)
             clear hb4))
        go_ret
        exact ⟨rfl, by assumption⟩
    · clear h0
      cases nb <;> cases cb
      all_goals
        unfold chv at hC
        go_enter Try.func45, Try.ntmps45
        go_wp2_with (first
          | (go_at_call 48
             refine (hE.out _).mono ?_
             rintro e w2 ⟨rfl, hb2⟩
             have hL3 := hL.below hb2 hL.lt
             have hb3 : Below w.heap.size w w2 := hb0.trans (hb2.mono hb0.size)
             have z0 := hL3.cell 0
             have z1 := hL3.cell 1
             have z2 := hL3.cell 2
             have z3 := hL3.cell 3
             simp only [List.getElem?_cons_succ, List.getElem?_cons_zero] at z0 z1 z2 z3
             clear hb2)
          | (go_at_call 61
             refine (hC.out _ hb3).mono ?_
             rintro e w4 ⟨rfl, hb4⟩
             have hb5 : Below w.heap.size w w4 := hb3.trans (hb4.mono hb3.size)
             clear hb4))
        go_ret
        exact ⟨rfl, by assumption⟩
end Go.Proofs.Ytpiekdcbjkgipaa

/- Package term: may a procedure have these Params; is a datum nothing, may it be quoted; going into a procedure, and on behind it. -/
namespace Go.Proofs.Ytpiekdcbjkgipaa
open Go.ChangeShapes Go.WideShapes Go.ChangeAt Go.RowKit Go.Deep
open TM (Tl Tm)

namespace TM
def tak (n : Int) (L : Nat) : Bool := decide (L ≤ 24) && (decide (n = 0) || (decide (n = 1) && !decide (L = 0)))
/-- what is known of each local: 1: its procedure is around; 2: behind -/
def ls (met bd : List Int) : Int → Int := fun x => if bd.contains x then 1 else if met.contains x then 2 else 0
theorem ls_enter (met bd : List Int) (p : Int) : setS (ls met bd) p 1 = ls (met ++ [p]) (bd ++ [p]) := by
  funext x
  unfold setS ls
  by_cases h : x = p
  · simp [h]
  · simp [h]
end TM
set_option maxRecDepth 100000 in
theorem takes_any (w : World) (k n : Int) (S : ByteArray) (P : Option Addr) (L p : Nat) (dk dn : Int) (dS : ByteArray) (vi vk : Value) (hL : L ≤ 9223372036854775807) :
    Calls Try.prog 47 #[.agg #[.int .i64 k, .int .i64 n, .string S, .slice P L p, .int .i64 dk, .int .i64 dn, .string dS, vi, vk]] w fun e w' => e = .returned (.bool (TM.tak n L)) ∧ Went w w' := by
  by_cases h1 : L ≤ 24
  · by_cases h2 : n = 0
    · subst h2
      rcases Nat.eq_zero_or_pos L with rfl | h0
      all_goals
        go_enter Try.func47, Try.ntmps47
        go_wp2_with fail
        all_goals
          go_ret
          exact ⟨ret_b (by simp [TM.tak]; first | done | omega | (rw [Bool.eq_iff_iff]; simp; omega)), went_box9 _ _ _⟩
    · by_cases h3 : n = 1
      · subst h3
        rcases Nat.eq_zero_or_pos L with rfl | h0
        all_goals
          go_enter Try.func47, Try.ntmps47
          go_wp2_with fail
          all_goals
            go_ret
            exact ⟨ret_b (by simp [TM.tak]; first | done | omega | (rw [Bool.eq_iff_iff]; simp; omega)), went_box9 _ _ _⟩
      · by_cases h4 : 0 ≤ n
        all_goals
          go_enter Try.func47, Try.ntmps47
          go_wp2_with fail
          all_goals
            go_ret
            exact ⟨ret_b (by simp [TM.tak, h2, h3]; try omega), went_box9 _ _ _⟩
  · go_enter Try.func47, Try.ntmps47
    go_wp2_with fail
    go_ret
    exact ⟨ret_b (by simp [TM.tak]; first | done | omega | (rw [Bool.eq_iff_iff]; simp; omega)), went_box9 _ _ _⟩
namespace TM
theorem ls_zero {met bd : List Int} (h : ∀ x, bd.contains x = true → met.contains x = true) {p : Int} : ls met bd p = 0 ↔ met.contains p = false := by
  unfold ls
  by_cases h1 : bd.contains p = true
  · rw [if_pos h1, h p h1]; simp
  · rw [if_neg h1]
    by_cases h2 : met.contains p = true
    · rw [if_pos h2, h2]; simp
    · rw [if_neg h2]; simp at h2 ⊢; exact h2
theorem ls_one {met bd : List Int} {p : Int} : ls met bd p = 1 ↔ bd.contains p = true := by
  unfold ls
  by_cases h1 : bd.contains p = true
  · rw [if_pos h1, h1]; simp
  · rw [if_neg h1]
    constructor
    · intro h
      split at h <;> omega
    · intro h; exact absurd h h1
theorem ls_leave {met bd : List Int} {p : Int} {r : List Int} (h1 : met.contains p = true) (h2 : bd.contains p = false) (h3 : p ∉ r) : setS (ls met (bd ++ p :: r)) p 2 = ls met (bd ++ r) := by
  funext x
  unfold setS ls
  by_cases h : x = p
  · subst h
    simp at h1 h2
    simp [h1, h2, h3]
  · simp [h]
end TM
def LocsN (q : Nat) (n : Nat) (met bd : List Int) (ok : Bool) (w : World) (e : Ending) (w' : World) : Prop := e = .returned (.bool ok) ∧ Turns (fun g => g = q) w w' ∧ (ok = true → ∃ n', n' ≤ n ∧ Im w' q n' (TM.ls met bd))
set_option maxRecDepth 100000 in
set_option maxHeartbeats 2000000 in
theorem enter_any (q n : Nat) (met bd ps : List Int) (w0 w : World) (v : Value) (h : PIn w0 v ps) (hb : Below w0.heap.size w0 w) (hq : w0.heap.size ≤ q) (hI : Im w q n (TM.ls met bd)) (hbm : ∀ x, bd.contains x = true → met.contains x = true) (h64 : ∀ p ∈ ps, b64 p) (hn : n ≤ 1000000) (hl : ps.length ≤ 1000) :
    Calls Try.prog 37 #[.map (some q), v] w (LocsN q (n + ps.length) (met ++ ps) (bd ++ ps) (TM.frs met ps) w) := by
  obtain ⟨A, c, rfl⟩ := h.read
  obtain ⟨L, hL⟩ : ∃ L, ps.length = L := ⟨_, rfl⟩
  rw [hL] at h hl ⊢
  have hL' := Lib.hid hL
  have h64' := Lib.hid h64
  have hbm' := Lib.hid hbm
  have hI' := Lib.hid hI
  clear hL h64 hbm hI
  go_enter Try.func37, Try.ntmps37
  go_wp2_with fail
  go_loopw [9] (fun i wr => ∃ (j n' : Nat), j ≤ L ∧ i = .int .i64 j ∧ Hid (TM.frs met (ps.take j) = true) ∧ Im wr q n' (TM.ls (met ++ ps.take j) (bd ++ ps.take j)) ∧ n' ≤ n + j ∧ Turns (fun g => g = q) w wr) (fun i _ => L - (intOf i).toNat)
  case atStart => exact ⟨0, n, Nat.zero_le _, rfl, Lib.hid rfl, by simpa using hI'.out, by omega, Turns.refl _ _⟩
  case round =>
    obtain ⟨j, n', hj, rfl, hf, hI2, hn', hT⟩ := hrel
    have hI2' := Lib.hid hI2
    have hT' := Lib.hid hT
    clear hT
    by_cases hlt : j < L
    · have hx : ps[j]? = some (ps[j]'(by rw [hL'.out]; exact hlt)) := List.getElem?_eq_getElem _
      obtain ⟨x, hxe⟩ : ∃ x, ps[j]'(by rw [hL'.out]; exact hlt) = x := ⟨_, rfl⟩
      rw [hxe] at hx
      obtain ⟨b, o, rfl, hb0, p0⟩ := h.cell hx
      have hbr : Below w0.heap.size w0 wr := ⟨hT'.out.os.trans hb.os, hT'.out.tape.trans hb.tape, hT'.out.output.trans hb.output, Nat.le_trans hb.size hT'.out.size, fun i hi => (hT'.out.block i (Nat.lt_of_lt_of_le hi hb.size) (by omega)).trans (hb.block i hi)⟩
      have y0 : wr.cell? ⟨b, o + j, none⟩ = some (.int .i64 x) := (hbr.cell (p := ⟨b, o + j, none⟩) hb0).trans p0
      have x64 := h64'.out x (by rw [← hxe]; exact List.getElem_mem _)
      have htk : ps.take (j + 1) = ps.take j ++ [x] := by
        rw [List.take_add_one, hx]; rfl
      have hsp : ps = ps.take j ++ (x :: ps.drop (j + 1)) := by
        rw [← hxe, ← List.drop_eq_getElem_cons, List.take_append_drop]
      have hz := @TM.ls_zero (met ++ ps.take j) (bd ++ ps.take j) (fun y hy => by
        have h2 := hbm'.out y
        simp at hy h2 ⊢
        rcases hy with hy | hy
        · exact .inl (h2 hy)
        · exact .inr hy) x
      have hlk := hI2.look (t := 85) Try.underlying85 x64
      have hput := hI2.put (t := 85) Try.underlying85 (by omega) x64 (k := 1) ⟨by omega, by omega⟩ (by omega)
      obtain ⟨sv, hsv⟩ : ∃ sv, TM.ls (met ++ ps.take j) (bd ++ ps.take j) x = sv := ⟨_, rfl⟩
      rw [hsv] at hlk hz hput
      have hno : ∀ b : Bool, b = false → (1 ≤ x → sv ≠ 0) → b = TM.frs met ps := by
        intro b hb1 h1
        rw [hb1, hsp, TM.frs_app, hf.out, TM.frs]
        by_cases h2 : 1 ≤ x
        · have := h1 h2
          have h3 : (met ++ ps.take j).contains x = true := by
            cases hh : (met ++ ps.take j).contains x
            · exact absurd (hz.2 hh) this
            · rfl
          rw [h3]; simp
        · simp [h2]
      have hno' := Lib.hid hno
      have htk' := Lib.hid htk
      have hsp' := Lib.hid hsp
      have hz' := Lib.hid hz
      clear hx hxe htk hsp hz hno hb0 p0 hbr hsv hI2
      by_cases h1 : x ≤ 0
      · clear hlk hput
        go_wp2_with fail
        go_ret
        exact ⟨ret_b (hno'.out _ rfl (fun h => by omega)), hT'.out, fun h => by rw [← hno'.out false rfl (fun h => by omega)] at h; simp at h⟩
      · by_cases h2 : sv = 0
        · subst h2
          obtain ⟨w2, hrun, hI3, hT3⟩ := hput
          have hT4 := Lib.hid (hT'.out.then hT3 (fun _ _ h => h))
          rw [TM.ls_enter, List.append_assoc, List.append_assoc, ← htk'.out] at hI3
          simp only [if_true] at hI3
          have hI3' := Lib.hid hI3
          have hf3 : TM.frs met (ps.take (j + 1)) = true := by
            rw [htk'.out, TM.frs_app, hf.out, TM.frs, hz'.out.1 rfl]
            simp [TM.frs]; omega
          have hf3' := Lib.hid hf3
          clear hI3 hT3 hf3
          go_wp2_with fail
          go_roundw
          case rel => exact ⟨j + 1, n' + 1, by omega, by go_num, hf3', hI3'.out, by omega, hT4.out⟩
          case measure => simp [intOf]; omega
        · clear hput
          go_wp2_with fail
          go_ret
          exact ⟨ret_b (hno'.out _ rfl (fun _ => h2)), hT'.out, fun h => by rw [← hno'.out false rfl (fun _ => h2)] at h; simp at h⟩
    · obtain rfl : j = L := by omega
      have ht : ps.take j = ps := by rw [← hL'.out]; exact List.take_length
      rw [ht] at hI2 hf
      clear hI2'
      have hI2' := Lib.hid hI2
      clear hI2
      go_wp2_with fail
      go_ret
      exact ⟨ret_b hf.out.symm, hT'.out, fun _ => ⟨n', hn', hI2'.out⟩⟩
set_option maxRecDepth 100000 in
set_option maxHeartbeats 2000000 in
theorem leave_any (q n : Nat) (met bd ps : List Int) (w0 w : World) (v : Value) (h : PIn w0 v ps) (hb : Below w0.heap.size w0 w) (hq : w0.heap.size ≤ q) (hI : Im w q n (TM.ls met (bd ++ ps))) (hm : ∀ p ∈ ps, met.contains p = true ∧ bd.contains p = false) (hnd : ps.Nodup) (h64 : ∀ p ∈ ps, b64 p) (hn : n ≤ 1000000) (hl : ps.length ≤ 1000) :
    Calls Try.prog 38 #[.map (some q), v] w fun e w' => e = .returned (.tuple #[]) ∧ Im w' q n (TM.ls met bd) ∧ Turns (fun g => g = q) w w' := by
  obtain ⟨A, c, rfl⟩ := h.read
  obtain ⟨L, hL⟩ : ∃ L, ps.length = L := ⟨_, rfl⟩
  rw [hL] at h hl ⊢
  have hL' := Lib.hid hL
  have h64' := Lib.hid h64
  have hm' := Lib.hid hm
  have hI' := Lib.hid hI
  have hnd' := Lib.hid hnd
  clear hL h64 hm hI hnd
  go_enter Try.func38, Try.ntmps38
  go_wp2_with fail
  go_loopw [8] (fun i wr => ∃ (j : Nat), j ≤ L ∧ i = .int .i64 j ∧ Im wr q n (TM.ls met (bd ++ ps.drop j)) ∧ Turns (fun g => g = q) w wr) (fun i _ => L - (intOf i).toNat)
  case atStart => exact ⟨0, Nat.zero_le _, rfl, by simpa using hI'.out, Turns.refl _ _⟩
  case round =>
    obtain ⟨j, hj, rfl, hI2, hT⟩ := hrel
    have hT' := Lib.hid hT
    clear hT
    by_cases hlt : j < L
    · have hx : ps[j]? = some (ps[j]'(by rw [hL'.out]; exact hlt)) := List.getElem?_eq_getElem _
      obtain ⟨x, hxe⟩ : ∃ x, ps[j]'(by rw [hL'.out]; exact hlt) = x := ⟨_, rfl⟩
      rw [hxe] at hx
      obtain ⟨b, o, rfl, hb0, p0⟩ := h.cell hx
      have hbr : Below w0.heap.size w0 wr := ⟨hT'.out.os.trans hb.os, hT'.out.tape.trans hb.tape, hT'.out.output.trans hb.output, Nat.le_trans hb.size hT'.out.size, fun i hi => (hT'.out.block i (Nat.lt_of_lt_of_le hi hb.size) (by omega)).trans (hb.block i hi)⟩
      have y0 : wr.cell? ⟨b, o + j, none⟩ = some (.int .i64 x) := (hbr.cell (p := ⟨b, o + j, none⟩) hb0).trans p0
      have hxm : x ∈ ps := by rw [← hxe]; exact List.getElem_mem _
      have x64 := h64'.out x hxm
      have hsp : ps.drop j = x :: ps.drop (j + 1) := by rw [← hxe, ← List.drop_eq_getElem_cons]
      have hnot : x ∉ ps.drop (j + 1) := by
        have := (List.drop_sublist j ps).nodup hnd'.out
        rw [hsp] at this
        exact (List.nodup_cons.1 this).1
      rw [hsp] at hI2
      have hone : TM.ls met (bd ++ x :: ps.drop (j + 1)) x ≠ 0 := by
        rw [TM.ls_one.2 (by simp)]; omega
      obtain ⟨w2, hrun, hI3, hT3⟩ := hI2.put (t := 85) Try.underlying85 (by omega) x64 (k := 2) ⟨by omega, by omega⟩ (by omega)
      rw [if_neg hone, TM.ls_leave (hm'.out x hxm).1 (hm'.out x hxm).2 hnot] at hI3
      have hT4 := Lib.hid (hT'.out.then hT3 (fun _ _ h => h))
      have hI3' := Lib.hid hI3
      clear hx hxe hb0 p0 hbr hsp hnot hxm hone hI2 hI3 hT3
      go_wp2_with fail
      go_roundw
      case rel => exact ⟨j + 1, by omega, by go_num, hI3'.out, hT4.out⟩
      case measure => simp [intOf]; omega
    · obtain rfl : j = L := by omega
      have ht : ps.drop j = [] := by rw [← hL'.out]; exact List.drop_length
      rw [ht, List.append_nil] at hI2
      have hI2' := Lib.hid hI2
      clear hI2
      go_wp2_with fail
      go_end0
      exact ⟨rfl, hI2'.out, hT'.out⟩
end Go.Proofs.Ytpiekdcbjkgipaa
