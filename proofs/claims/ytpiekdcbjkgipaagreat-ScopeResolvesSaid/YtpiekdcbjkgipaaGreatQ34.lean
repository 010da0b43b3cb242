/- The reference of layer 10: how deep a term is, its parts, its Params; has. -/
import Derived.Test.YtpiekdcbjkgipaaGreatQ18
import Derived.Maps.AppendAt
namespace Go.Proofs.YtpiekdcbjkgipaaGreat
open Go.ChangeShapes Go.WideShapes Go.ChangeAt Go.RowKit Go.Deep
open TM (Tl Tm)

def TkN (H : Nat) (far : Int) (w : World) (e : Ending) (w' : World) : Prop := ∃ y : Int, y = min ((H : Int) + 1) (far + 1) ∧ e = .returned (.int .i64 y) ∧ Went w w'
def TkOk (t : Tm) : Prop := ∀ (w : World) (vp vi vk : Value) (far : Int), TmIn w t vp vi vk → 0 ≤ far → far ≤ 100000 → Calls Tryz.prog 19 #[tmv t vp vi vk, .int .i64 far] w (TkN (TM.hi t.ks) far w)
set_option maxRecDepth 100000 in
set_option maxHeartbeats 4000000 in
theorem tk_step (k n : Int) (s : List UInt8) (ps : List Int) (d : RM.Dm) (ks : Tl) (hR : ∀ i x, ks.at_ i = some x → TkOk x) : TkOk ⟨k, n, s, ps, d, ks⟩ := by
  intro w vp vi vk far h hf0 hf1
  obtain ⟨P3, p3, rfl⟩ := h.p.read
  obtain ⟨I7, q7, rfl⟩ := h.d.read
  obtain ⟨A1, c1, rfl⟩ := h.k.read
  have hlen := h.k.len
  have hTk := h.k
  simp only at hlen hTk ⊢
  obtain ⟨N, hN⟩ : ∃ N, ks.len = N := ⟨_, rfl⟩
  obtain ⟨L3, hL3⟩ : ∃ x, ps.length = x := ⟨_, rfl⟩
  obtain ⟨L7, hL7⟩ : ∃ x, d.is.len = x := ⟨_, rfl⟩
  unfold tmv
  simp only
  rw [hN] at hlen hTk ⊢
  rw [hL3, hL7]
  have hN' := Lib.hid hN
  have hL3' := Lib.hid hL3
  have hL7' := Lib.hid hL7
  have hR' := Lib.hid hR
  have hL := Lies.made w 28 #[.int .i64 k, .int .i64 n, .string ⟨s.toArray⟩, .slice P3 L3 p3, .int .i64 d.k, .int .i64 d.n, .string ⟨d.s.toArray⟩, .slice I7 L7 q7, .slice A1 N c1]
  have hba : Below w.heap.size w (w.alloc (.cells #[.int .i64 k, .int .i64 n, .string ⟨s.toArray⟩, .slice P3 L3 p3, .int .i64 d.k, .int .i64 d.n, .string ⟨d.s.toArray⟩, .slice I7 L7 q7, .slice A1 N c1] 28)) := (Below.refl _ w).alloc (Nat.le_refl _) _
  obtain ⟨H, hH⟩ : ∃ H, TM.hi ks = H := ⟨_, rfl⟩
  rw [hH]
  have hpos : N = 0 → H = 0 := fun h => by
    rw [h] at hN
    have := Tl.dr_end ks 0 (by omega)
    rw [Tl.dr_zero] at this
    rw [← hH, this]; rfl
  have hH' := Lib.hid hH
  clear hN hR hH hL3 hL7 h
  by_cases hf : 0 < far
  · go_enter Tryz.func19, Tryz.ntmps19
    go_wp2_with fail
    go_loopw [5, 6] (fun y i wr => ∃ (j R : Nat) (m : Int), j ≤ N ∧ i = .int .i64 j ∧ Hid (TM.hi (ks.dr j) = R) ∧ max m (min (R : Int) far) = min (H : Int) far ∧ 0 ≤ m ∧ m ≤ far ∧ y = .int .i64 m ∧ Below w.heap.size w wr ∧ Lies wr w.heap.size 28 [.int .i64 k, .int .i64 n, .string ⟨s.toArray⟩, .slice P3 L3 p3, .int .i64 d.k, .int .i64 d.n, .string ⟨d.s.toArray⟩, .slice I7 L7 q7, .slice A1 N c1]) (fun _ i _ => N - (intOf i).toNat)
    case atStart => exact ⟨0, H, 0, by omega, rfl, Lib.hid (by rw [Tl.dr_zero]; exact hH'.out), by omega, by omega, by omega, rfl, hba, hL⟩
    case round =>
      obtain ⟨j, R, m, hj, rfl, hR, hm, hm0, hm1, rfl, hb, hM1⟩ := hrel
      clear hL hba
      have y8 : wr.cell? ⟨w.heap.size, 8, none⟩ = some (.slice A1 N c1) := hM1.cell 8
      by_cases hlt : j < N
      · obtain ⟨x, hx⟩ := ks.at_some j (by rw [hN'.out]; exact hlt)
        obtain ⟨b, o, P5, p5, I5, q5, K5, r5, rfl, hb0, p0, p1, p2, pp, p4, p55, p6, pi, pk, hT5⟩ := (hTk.below hb).at_ hx
        have hx' := Lib.hid (hR'.out j x hx)
        have hR0 := hR.out
        rw [TM.hi_at hx] at hR0
        obtain ⟨R1, hR1⟩ : ∃ R1, TM.hi (ks.dr (j + 1)) = R1 := ⟨_, rfl⟩
        obtain ⟨X, hX⟩ : ∃ X, TM.hi x.ks = X := ⟨_, rfl⟩
        rw [hR1, hX] at hR0
        have hR1' := Lib.hid hR1
        have hX' := Lib.hid hX
        have hC := Lib.hid (hx'.out wr _ _ _ (far - 1) hT5 (by omega) (by omega))
        unfold tmv at hC
        rw [hX'.out] at hC
        clear hx hR1 hX hT5 hx'
        go_wp2_with (
          go_at_call 19
          refine hC.out.mono ?_
          rintro e w5 ⟨y5, h50, rfl, hb5⟩
          have h50' := Lib.hid h50
          clear h50
          have hM3 := hM1.below hb5 hM1.lt
          have hb6 : Below w.heap.size w w5 := hb.trans (hb5.mono hb.size)
          clear p0 p1 p2 pp p4 p55 p6 pi pk y8 hb5)
        all_goals
          have h50 := h50'.out
          go_roundw
          case rel => exact ⟨j + 1, R1, _, by omega, by go_num, hR1', by omega, by omega, by omega, rfl, hb6, hM3⟩
          case measure => simp [intOf]; omega
      · obtain rfl : j = N := by omega
        have hR0 := hR.out
        rw [Tl.dr_end ks j (by rw [hN'.out]; exact Nat.le_refl _)] at hR0
        have hR1 : R = 0 := hR0.symm
        go_wp2_with fail
        go_ret
        exact ⟨m + 1, by omega, rfl, hb⟩
  · go_enter Tryz.func19, Tryz.ntmps19
    go_wp2_with fail
    go_ret
    exact ⟨1, by omega, rfl, hba⟩
theorem tdepth_any (t : Tm) : TkOk t := Tl.all_one TkOk tk_step t

def CtN (n : Int) (w : World) (e : Ending) (w' : World) : Prop := ∃ y : Int, y = min n 5000 ∧ e = .returned (.int .i64 y) ∧ Went w w'
def CtOk (t : Tm) : Prop := ∀ (w : World) (vp vi vk : Value) (m : Int), TmIn w t vp vi vk → 0 ≤ m → m < 5000 → Calls Tryz.prog 40 #[tmv t vp vi vk, .int .i64 m] w (CtN (m + TM.sz t.ks + 1) w)
set_option maxRecDepth 100000 in
set_option maxHeartbeats 4000000 in
theorem ct_step (k n : Int) (s : List UInt8) (ps : List Int) (d : RM.Dm) (ks : Tl) (hR : ∀ i x, ks.at_ i = some x → CtOk x) : CtOk ⟨k, n, s, ps, d, ks⟩ := by
  intro w vp vi vk n0 h hn0 hn1
  obtain ⟨P3, p3, rfl⟩ := h.p.read
  obtain ⟨I7, q7, rfl⟩ := h.d.read
  obtain ⟨A1, c1, rfl⟩ := h.k.read
  have hlen := h.k.len
  have hTk := h.k
  simp only at hlen hTk ⊢
  obtain ⟨N, hN⟩ : ∃ N, ks.len = N := ⟨_, rfl⟩
  obtain ⟨L3, hL3⟩ : ∃ x, ps.length = x := ⟨_, rfl⟩
  obtain ⟨L7, hL7⟩ : ∃ x, d.is.len = x := ⟨_, rfl⟩
  unfold tmv
  simp only
  rw [hN] at hlen hTk ⊢
  rw [hL3, hL7]
  have hN' := Lib.hid hN
  have hL3' := Lib.hid hL3
  have hL7' := Lib.hid hL7
  have hR' := Lib.hid hR
  have hL := Lies.made w 28 #[.int .i64 k, .int .i64 n, .string ⟨s.toArray⟩, .slice P3 L3 p3, .int .i64 d.k, .int .i64 d.n, .string ⟨d.s.toArray⟩, .slice I7 L7 q7, .slice A1 N c1]
  have hba : Below w.heap.size w (w.alloc (.cells #[.int .i64 k, .int .i64 n, .string ⟨s.toArray⟩, .slice P3 L3 p3, .int .i64 d.k, .int .i64 d.n, .string ⟨d.s.toArray⟩, .slice I7 L7 q7, .slice A1 N c1] 28)) := (Below.refl _ w).alloc (Nat.le_refl _) _
  obtain ⟨Z, hZ⟩ : ∃ Z, TM.sz ks = Z := ⟨_, rfl⟩
  rw [hZ]
  have hZ' := Lib.hid hZ
  clear hN hR hZ hL3 hL7 h
  go_enter Tryz.func40, Tryz.ntmps40
  go_wp2_with fail
  go_loopw [1, 5] (fun y i wr => ∃ (j R : Nat) (m : Int), j ≤ N ∧ i = .int .i64 j ∧ Hid (TM.sz (ks.dr j) = R) ∧ min (m + (R : Int)) 5000 = min (n0 + (Z : Int) + 1) 5000 ∧ 0 ≤ m ∧ m ≤ 5000 ∧ y = .int .i64 m ∧ Below w.heap.size w wr ∧ Lies wr w.heap.size 28 [.int .i64 k, .int .i64 n, .string ⟨s.toArray⟩, .slice P3 L3 p3, .int .i64 d.k, .int .i64 d.n, .string ⟨d.s.toArray⟩, .slice I7 L7 q7, .slice A1 N c1]) (fun _ i _ => N - (intOf i).toNat)
  case atStart => exact ⟨0, Z, n0 + 1, by omega, rfl, Lib.hid (by rw [Tl.dr_zero]; exact hZ'.out), by omega, by omega, by omega, rfl, hba, hL⟩
  case round =>
    obtain ⟨j, R, m, hj, rfl, hR, hm, hm0, hm1, rfl, hb, hM1⟩ := hrel
    clear hL hba
    have y8 : wr.cell? ⟨w.heap.size, 8, none⟩ = some (.slice A1 N c1) := hM1.cell 8
    by_cases hlt2 : j < N ∧ m < 5000
    · obtain ⟨hlt, hmm⟩ := hlt2
      obtain ⟨x, hx⟩ := ks.at_some j (by rw [hN'.out]; exact hlt)
      obtain ⟨b, o, P5, p5, I5, q5, K5, r5, rfl, hb0, p0, p1, p2, pp, p4, p55, p6, pi, pk, hT5⟩ := (hTk.below hb).at_ hx
      have hx' := Lib.hid (hR'.out j x hx)
      have hR0 := hR.out
      rw [TM.sz_at hx] at hR0
      obtain ⟨R1, hR1⟩ : ∃ R1, TM.sz (ks.dr (j + 1)) = R1 := ⟨_, rfl⟩
      obtain ⟨X, hX⟩ : ∃ X, TM.sz x.ks = X := ⟨_, rfl⟩
      rw [hR1, hX] at hR0
      have hR1' := Lib.hid hR1
      have hX' := Lib.hid hX
      have hC := Lib.hid (hx'.out wr _ _ _ m hT5 hm0 hmm)
      unfold tmv at hC
      rw [hX'.out] at hC
      clear hx hR1 hX hT5 hx'
      go_wp2_with (
        go_at_call 40
        refine hC.out.mono ?_
        rintro e w5 ⟨y5, h50, rfl, hb5⟩
        have h50' := Lib.hid h50
        clear h50
        have hM3 := hM1.below hb5 hM1.lt
        have hb6 : Below w.heap.size w w5 := hb.trans (hb5.mono hb.size)
        clear p0 p1 p2 pp p4 p55 p6 pi pk y8 hb5)
      have h50 := h50'.out
      go_roundw
      case rel => exact ⟨j + 1, R1, y5, by omega, by go_num, hR1', by omega, by omega, by omega, rfl, hb6, hM3⟩
      case measure => simp [intOf]; omega
    · by_cases hj2 : j < N
      · have hmm : m = 5000 := by omega
        clear hlt2
        go_wp2_with fail
        all_goals
          go_ret
          exact ⟨5000, by omega, by first | rfl | (congr 2; omega), hb⟩
      · clear hlt2
        obtain rfl : j = N := by omega
        have hR0 := hR.out
        rw [Tl.dr_end ks j (by rw [hN'.out]; exact Nat.le_refl _)] at hR0
        have hR1 : R = 0 := hR0.symm
        go_wp2_with fail
        all_goals
          go_ret
          exact ⟨_, by omega, rfl, hb⟩
theorem tcount_any (t : Tm) : CtOk t := Tl.all_one CtOk ct_step t
set_option maxRecDepth 100000 in
theorem trparts_any (t : Tm) (w : World) (vp vi vk : Value) (h : TmIn w t vp vi vk) : Calls Tryz.prog 20 #[tmv t vp vi vk] w (CtN (TM.sz t.ks + 1) w) := by
  obtain ⟨Z, hZ⟩ : ∃ Z, TM.sz t.ks = Z := ⟨_, rfl⟩
  have hC := Lib.hid (fun w' (hb : Below w.heap.size w w') => tcount_any t w' vp vi vk 0 (h.below hb) (by omega) (by omega))
  rw [hZ] at hC ⊢
  unfold tmv at hC ⊢
  have hb0 : Below w.heap.size w (w.alloc (.cells #[.int .i64 t.k, .int .i64 t.n, .string ⟨t.s.toArray⟩, vp, .int .i64 t.d.k, .int .i64 t.d.n, .string ⟨t.d.s.toArray⟩, vi, vk] 28)) := (Below.refl _ w).alloc (Nat.le_refl _) _
  clear h hZ
  go_enter Tryz.func20, Tryz.ntmps20
  go_wp2_with (
    go_at_call 40
    refine (hC.out _ hb0).mono ?_
    rintro e w5 ⟨y5, h50, rfl, hb5⟩
    have h50' := Lib.hid h50
    clear h50)
  have h50 := h50'.out
  go_ret
  exact ⟨y5, by omega, rfl, hb0.trans (hb5.mono (by simp))⟩
set_option maxRecDepth 100000 in
theorem has_any (w : World) (v : Value) (l : List Int) (n : Int) (h : PIn w v l) : Calls Tryz.prog 48 #[v, .int .i64 n] w fun e w' => e = .returned (.bool (l.contains n)) ∧ w = w' := by
  obtain ⟨A, c, rfl⟩ := h.read
  have hlen := h.len
  obtain ⟨L, hL⟩ : ∃ L, l.length = L := ⟨_, rfl⟩
  rw [hL] at h hlen ⊢
  obtain ⟨R, hR⟩ : ∃ R, l.contains n = R := ⟨_, rfl⟩
  rw [hR]
  have hR' := Lib.hid hR
  have hL' := Lib.hid hL
  clear hL hR
  go_enter Tryz.func48, Tryz.ntmps48
  go_wp2_with fail
  go_loop [5] (fun i => ∃ (j : Nat), j ≤ L ∧ i = .int .i64 j ∧ Hid ((l.drop j).contains n = R)) (fun i => L - (intOf i).toNat)
  case atStart => exact ⟨0, Nat.zero_le _, rfl, Lib.hid (by simpa using hR'.out)⟩
  case round =>
    obtain ⟨j, hj, rfl, hc⟩ := hrel
    by_cases hlt : j < L
    · have hx : l[j]? = some (l[j]'(by rw [hL'.out]; exact hlt)) := List.getElem?_eq_getElem _
      obtain ⟨x, hxe⟩ : ∃ x, l[j]'(by rw [hL'.out]; exact hlt) = x := ⟨_, rfl⟩
      rw [hxe] at hx
      obtain ⟨b, o, rfl, hb0, p0⟩ := h.cell hx
      have hd : l.drop j = x :: l.drop (j + 1) := by rw [← hxe, ← List.drop_eq_getElem_cons]
      have hc2 := hc.out
      rw [hd, List.contains_cons] at hc2
      by_cases hxn : x = n
      · subst hxn
        obtain rfl : R = true := by rw [← hc2]; simp
        clear hx hxe hd hc2 hc
        go_wp2_with fail
        go_ret
        exact ⟨rfl, rfl⟩
      · have hc3 : (l.drop (j + 1)).contains n = R := by
          rw [← hc2, show (n == x) = false by rw [beq_eq_false_iff_ne]; exact fun e => hxn e.symm]; simp
        have hc3' := Lib.hid hc3
        clear hx hxe hd hc2 hc hc3
        go_wp2_with fail
        go_round
        case rel => exact ⟨j + 1, by omega, by go_num, hc3'⟩
        case measure => simp [intOf]; omega
    · obtain rfl : j = L := by omega
      have hc2 := hc.out
      rw [← hL'.out, List.drop_length] at hc2
      obtain rfl : R = false := by rw [← hc2]; rfl
      go_wp2_with fail
      go_ret
      exact ⟨rfl, rfl⟩
end Go.Proofs.YtpiekdcbjkgipaaGreat

/- The reference of layer 10: a local's place. -/
namespace Go.Proofs.YtpiekdcbjkgipaaGreat
open Go.ChangeShapes Go.WideShapes Go.ChangeAt Go.RowKit Go.Deep
open TM (Tl Tm)

namespace TM
theorem pl_found {l : List Int} {j : Nat} {x : Int} (hx : l[j]? = some x) (hn : (l.take j).contains x = false) : pl l x = (j : Int) + 1 := by
  have hj := (List.getElem?_eq_some_iff.1 hx).1
  have hl : l = l.take j ++ x :: l.drop (j + 1) := by
    have h2 := (List.getElem?_eq_some_iff.1 hx).2
    rw [← h2, ← List.drop_eq_getElem_cons, List.take_append_drop]
  have hm : ¬ x ∈ l.take j := by simpa using hn
  have hc : l.contains x = true := by rw [hl]; simp
  have hi : l.idxOf x = j := by
    rw [hl, List.idxOf_append, if_neg hm]
    simp
    omega
  rw [pl, if_pos hc, hi]
theorem pl_lost {l : List Int} {x : Int} (hn : l.contains x = false) : pl l x = 0 := by rw [pl, hn]; rfl
end TM
set_option maxRecDepth 100000 in
theorem place_any (w : World) (v : Value) (l : List Int) (n : Int) (h : PIn w v l) : Calls Tryz.prog 68 #[v, .int .i64 n] w fun e w' => e = .returned (.int .i64 (TM.pl l n)) ∧ w = w' := by
  obtain ⟨A, c, rfl⟩ := h.read
  have hlen := h.len
  obtain ⟨L, hL⟩ : ∃ L, l.length = L := ⟨_, rfl⟩
  rw [hL] at h hlen ⊢
  obtain ⟨R, hR⟩ : ∃ R, TM.pl l n = R := ⟨_, rfl⟩
  rw [hR]
  have hR' := Lib.hid hR
  have hL' := Lib.hid hL
  clear hL hR
  go_enter Tryz.func68, Tryz.ntmps68
  go_wp2_with fail
  go_loop [5] (fun i => ∃ (j : Nat), j ≤ L ∧ i = .int .i64 j ∧ Hid ((l.take j).contains n = false)) (fun i => L - (intOf i).toNat)
  case atStart => exact ⟨0, Nat.zero_le _, rfl, Lib.hid (by simp)⟩
  case round =>
    obtain ⟨j, hj, rfl, hc⟩ := hrel
    by_cases hlt : j < L
    · have hx : l[j]? = some (l[j]'(by rw [hL'.out]; exact hlt)) := List.getElem?_eq_getElem _
      obtain ⟨x, hxe⟩ : ∃ x, l[j]'(by rw [hL'.out]; exact hlt) = x := ⟨_, rfl⟩
      rw [hxe] at hx
      obtain ⟨b, o, rfl, hb0, p0⟩ := h.cell hx
      by_cases hxn : x = n
      · subst hxn
        have hres := TM.pl_found hx hc.out
        rw [hR'.out] at hres
        subst hres
        clear hx hxe
        go_wp2_with fail
        go_ret
        exact ⟨rfl, rfl⟩
      · have hc3 : (l.take (j + 1)).contains n = false := by
          have h1 := hc.out
          rw [List.take_add_one, hx]
          simp at h1 ⊢
          exact ⟨h1, fun e => hxn e.symm⟩
        have hc3' := Lib.hid hc3
        clear hx hxe hc hc3
        go_wp2_with fail
        go_round
        case rel => exact ⟨j + 1, by omega, by go_num, hc3'⟩
        case measure => simp [intOf]; omega
    · obtain rfl : j = L := by omega
      have hc2 := hc.out
      rw [← hL'.out, List.take_length] at hc2
      have hres := TM.pl_lost hc2
      rw [hR'.out] at hres
      subst hres
      clear hc2
      go_wp2_with fail
      go_ret
      exact ⟨rfl, rfl⟩
end Go.Proofs.YtpiekdcbjkgipaaGreat

/- The reference of layer 10: all Params of a program; ints that can be read, put behind one's own. -/
namespace Go.Proofs.YtpiekdcbjkgipaaGreat
open Go.ChangeShapes Go.WideShapes Go.ChangeAt Go.RowKit Go.Deep
open TM (Tl Tm)

section
variable {w w' : World} {B g : Nat} {v x : Value} {l lx : List Int} {X : Nat → Prop}
theorem run_append_nothing (base c : Nat) (t ty e : TypeId) (i : TypeInfo) (size : Nat) (ht : Tryz.prog.underlying t = some (.slice e)) (hi : Tryz.prog.info? e = some i)
    (v : Value) (n : Nat) (xs : List Value) (hown : w.ownsRow base e size v n xs) :
    (Builtin.append_ #[t, t] ty #[v, .slice none 0 c]).run Tryz.prog w = .ok v w := by
  rcases hown.2 with ⟨rfl, rfl⟩ | ⟨g, cap, cur, rfl, _, _, hnc, _⟩
  · simp [Builtin.append_, run_underlying ht, sizeOf, typeInfo, hi, Builtin.lenOf, Builtin.firstCells]
  · simp [Builtin.append_, run_underlying ht, sizeOf, typeInfo, hi, Builtin.lenOf, Builtin.firstCells, hnc, storeCells]
theorem run_append_pin (t ty : TypeId) (ht : Tryz.prog.underlying t = some (.slice 3)) (h : Own w B v l) (k : PIn w x lx) (hlen : l.length + lx.length ≤ 1000000) (hB : B ≤ w.heap.size) :
    ∃ v' w', (Builtin.append_ #[t, t] ty #[v, x]).run Tryz.prog w = .ok v' w' ∧ Own w' B v' (l ++ lx) ∧ w.grownBy w' v.ownBlock ∧ (v'.ownBlock = v.ownBlock ∨ v'.ownBlock = some w.heap.size) := by
  obtain ⟨i0, hi, hz0, hz1, hz2⟩ := info_parts Tryz.infoInt
  obtain ⟨A, c, rfl, hl, b, o, h1, h2⟩ := k
  cases A with
  | none =>
    have : lx = [] := List.eq_nil_of_length_eq_zero (by
      rcases Nat.eq_zero_or_pos lx.length with h | h
      · exact h
      · have := (h1 h).1; simp at this)
    subst this
    exact ⟨v, w, run_append_nothing B c t ty 3 i0 1 ht hi v _ _ h, by rw [List.append_nil]; exact h, World.grownBy.refl w _, .inl rfl⟩
  | some a =>
    have hcells : ∀ j u, (lx.map (Value.int .i64))[j]? = some u → w.cell? (a.add j) = some u := by
      intro j u hu
      have hj : j < lx.length := by have := (List.getElem?_eq_some_iff.1 hu).1; simpa using this
      have ha := (h1 (by omega)).1
      simp only [Option.some.injEq] at ha
      subst ha
      rw [List.getElem?_map, List.getElem?_eq_getElem hj] at hu
      simp only [Option.map_some, Option.some.injEq] at hu
      subst hu
      have := h2 j _ (List.getElem?_eq_getElem hj)
      rwa [add_plain]
    obtain ⟨v', w', hr, h2, h3, _, h5⟩ := run_append_own_at (P := Tryz.prog) (ty := ty) w B t 3 i0 _ 1 8 ht hi hz0 hz1 hz2 rfl (by decide) v _ _ h a lx.length c (lx.map (.int .i64)) (by simp) hcells
      (fun u hu => by obtain ⟨_, _, rfl⟩ := List.mem_map.1 hu; rfl) (by unfold maxLen; omega) (by omega) hB
    refine ⟨v', w', hr, ?_, h3, h5⟩
    unfold Own
    rw [List.length_append, List.map_append]
    exact h2
theorem wp_append_pin {o : Oper} {a : Act} {K : Act → World → Prop} {Q : Exit → Act → World → Prop} (s u : Operand) (t : TypeId)
    (ho : o.op = .call { callee := .builtin .append, args := #[s, u], argTypes := #[t, t] }) (ht : Tryz.prog.underlying t = some (.slice 3))
    (hs : a.eval s = v) (hu : a.eval u = x) (h : Own w B v l) (k : PIn w x lx) (hlen : l.length + lx.length ≤ 1000000) (hB : B ≤ w.heap.size)
    (hq : ∀ v' w', Own w' B v' (l ++ lx) → w.grownBy w' v.ownBlock → (v'.ownBlock = v.ownBlock ∨ v'.ownBlock = some w.heap.size) → K (a.put o.dst v') w') : o.wp Tryz.prog a w K Q := by
  obtain ⟨v', w', hr, h2, h3, h4⟩ := run_append_pin t o.type ht h k hlen hB
  unfold Oper.wp execOp
  simp only [ho, resolve, invoke, builtin, Sem.run_bind, Sem.run_pure, Result.andThen_ok, List.map_toArray, List.map_cons, List.map_nil, hs, hu, hr]
  exact hq v' w' h2 h3 h4
theorem wpList_append_pin {ops : Array Oper} {rest : List Oper} {o : Oper} {a : Act} {Q : Exit → Act → World → Prop} (hgd : o.guard = none) (s u : Operand) (t : TypeId)
    (ho : o.op = .call { callee := .builtin .append, args := #[s, u], argTypes := #[t, t] }) (ht : Tryz.prog.underlying t = some (.slice 3))
    (hs : a.eval s = v) (hu : a.eval u = x) (h : Own w B v l) (k : PIn w x lx) (hlen : l.length + lx.length ≤ 1000000) (hB : B ≤ w.heap.size)
    (hq : ∀ v' w', Own w' B v' (l ++ lx) → w.grownBy w' v.ownBlock → (v'.ownBlock = v.ownBlock ∨ v'.ownBlock = some w.heap.size) → wpList Tryz.prog ops Q rest (a.put o.dst v') w') : wpList Tryz.prog ops Q (o :: rest) a w :=
  wpList_plain hgd fun _ hK => wp_append_pin s u t ho ht hs hu h k hlen hB fun v' w' h2 h3 h4 => hK _ _ (hq v' w' h2 h3 h4)
theorem step_append_pin {ops : Array Oper} {o : Oper} {a : Act} {K : Act → World → Prop} {Q : Exit → Act → World → Prop} {E : Prop} (hgd : o.guard = none) (s u : Operand) (t : TypeId)
    (ho : o.op = .call { callee := .builtin .append, args := #[s, u], argTypes := #[t, t] }) (ht : Tryz.prog.underlying t = some (.slice 3))
    (hs : a.eval s = v) (hu : a.eval u = x) (h : Own w B v l) (k : PIn w x lx) (hlen : l.length + lx.length ≤ 1000000) (hB : B ≤ w.heap.size)
    (hq : ∀ v' w', Own w' B v' (l ++ lx) → w.grownBy w' v.ownBlock → (v'.ownBlock = v.ownBlock ∨ v'.ownBlock = some w.heap.size) → K (a.put o.dst v') w') :
    if Region.wanted o (yielded ops a.tmps) = true then Oper.wp Tryz.prog o a w K Q else E := by
  rw [if_pos (by simp [Region.wanted, hgd])]
  exact wp_append_pin s u t ho ht hs hu h k hlen hB hq
end
theorem TM.prs_in {d : Tl} {i : Nat} {x : Tm} (h : d.at_ i = some x) : (x.ps ++ TM.prs x.ks).length + (TM.prs (d.dr (i + 1))).length ≤ (TM.prs (d.dr i)).length := by
  rw [TM.prs_at h]
  simp only [List.length_append]
  omega
theorem TM.prs_dr : ∀ (d : Tl) (i : Nat), (TM.prs (d.dr i)).length ≤ (TM.prs d).length
  | d, 0 => by rw [Tl.dr_zero]; exact Nat.le_refl _
  | .nil, i + 1 => Nat.le_refl _
  | .cons k n s ps d ks r, i + 1 => by
    have := TM.prs_dr r i
    show (TM.prs (r.dr i)).length ≤ (ps ++ (TM.prs ks ++ TM.prs r)).length
    simp only [List.length_append]; omega
def PmOk (t : Tm) : Prop := ∀ (w : World) (vp vi vk : Value), TmIn w t vp vi vk → (t.ps ++ TM.prs t.ks).length ≤ 1000000 →
  Calls Tryz.prog 26 #[tmv t vp vi vk] w fun e w' => ∃ v, e = .returned v ∧ Own w' w.heap.size v (t.ps ++ TM.prs t.ks) ∧ Went w w'
set_option maxRecDepth 100000 in
set_option maxHeartbeats 4000000 in
theorem pm_step (k n : Int) (s : List UInt8) (ps : List Int) (d : RM.Dm) (ks : Tl) (hR : ∀ i x, ks.at_ i = some x → PmOk x) : PmOk ⟨k, n, s, ps, d, ks⟩ := by
  intro w vp vi vk h hmany
  obtain ⟨P3, p3, rfl⟩ := h.p.read
  obtain ⟨I7, q7, rfl⟩ := h.d.read
  obtain ⟨A1, c1, rfl⟩ := h.k.read
  have hlen := h.k.len
  have hTk := h.k
  have hTp := h.p
  simp only at hlen hTk hTp hmany ⊢
  obtain ⟨N, hN⟩ : ∃ N, ks.len = N := ⟨_, rfl⟩
  obtain ⟨L3, hL3⟩ : ∃ x, ps.length = x := ⟨_, rfl⟩
  obtain ⟨L7, hL7⟩ : ∃ x, d.is.len = x := ⟨_, rfl⟩
  unfold tmv
  simp only
  rw [hN] at hlen hTk ⊢
  rw [hL3, hL7]
  rw [hL3] at hTp
  have hN' := Lib.hid hN
  have hL3' := Lib.hid hL3
  have hR' := Lib.hid hR
  have hm' := Lib.hid hmany
  have hL := Lies.made w 28 #[.int .i64 k, .int .i64 n, .string ⟨s.toArray⟩, .slice P3 L3 p3, .int .i64 d.k, .int .i64 d.n, .string ⟨d.s.toArray⟩, .slice I7 L7 q7, .slice A1 N c1]
  have hba : Below w.heap.size w (w.alloc (.cells #[.int .i64 k, .int .i64 n, .string ⟨s.toArray⟩, .slice P3 L3 p3, .int .i64 d.k, .int .i64 d.n, .string ⟨d.s.toArray⟩, .slice I7 L7 q7, .slice A1 N c1] 28)) := (Below.refl _ w).alloc (Nat.le_refl _) _
  have hTp1 := hTp.below hba
  clear hN hR hL3 hL7 h hmany hTp
  go_enter Tryz.func26, Tryz.ntmps26
  go_wp2_with (
    at_builtin
    refine wpList_append_pin (B := w.heap.size) (v := .slice none 0 0) (l := []) (lx := ps) rfl _ _ 22 rfl Tryz.underlying22 rfl rfl (Own.none_ _ _) hTp1 (by have := hm'.out; simp at this ⊢; omega) (by simp) ?_
    intro v9 w9 hown9 hg9 hat9
    rw [List.nil_append] at hown9
    have hb9 : Below w.heap.size w w9 := ((Turns.of_below hba (fun _ => False)).then (Turns.appended hg9) (fun k hk hh => by simp [Value.ownBlock] at hh)).below (Nat.le_refl _) (fun _ h => h.elim)
    have hM9 := hL.turns (Turns.appended hg9) (fun hh => by simp [Value.ownBlock] at hh)
    have ht9 : ∀ g, v9.ownBlock = some g → w.heap.size < g := fun g hh => by
      rcases hat9 with e | e
      · rw [e] at hh; simp [Value.ownBlock] at hh
      · rw [e] at hh; simp at hh; omega
    clear hg9 hat9)
  go_loopw [3, 4] (fun v8 i wr => ∃ (j : Nat) (out : List Int), j ≤ N ∧ i = .int .i64 j ∧ Own wr w.heap.size v8 out ∧ (∀ g, v8.ownBlock = some g → w.heap.size < g) ∧ Hid (out ++ TM.prs (ks.dr j) = ps ++ TM.prs ks) ∧ Lies wr w.heap.size 28 [.int .i64 k, .int .i64 n, .string ⟨s.toArray⟩, .slice P3 L3 p3, .int .i64 d.k, .int .i64 d.n, .string ⟨d.s.toArray⟩, .slice I7 L7 q7, .slice A1 N c1] ∧ Below w.heap.size w wr) (fun _ i _ => N - (intOf i).toNat)
  case atStart => exact ⟨0, ps, by omega, rfl, hown9, ht9, Lib.hid (by rw [Tl.dr_zero]), hM9, hb9⟩
  case round =>
    obtain ⟨j, out, hj, rfl, hO, ht, hE, hM1, hb⟩ := hrel
    clear hL hba hown9 ht9 hM9 hb9 hTp1
    have y8 : wr.cell? ⟨w.heap.size, 8, none⟩ = some (.slice A1 N c1) := hM1.cell 8
    obtain ⟨A8, c8, e8, -⟩ := hO.read
    subst e8
    by_cases hlt : j < N
    · obtain ⟨x, hx⟩ := ks.at_some j (by rw [hN'.out]; exact hlt)
      obtain ⟨b, o, P5, p5, I5, q5, K5, r5, rfl, hb0, p0, p1, p2, pp, p4, p55, p6, pi, pk, hT5⟩ := (hTk.below hb).at_ hx
      have hpi := TM.prs_in hx
      have hpe := TM.prs_at hx
      have hmm : out.length + (TM.prs (ks.dr j)).length ≤ 1000000 := by
        have h1 := congrArg List.length hE.out
        have h2 := hm'.out
        simp only [List.length_append] at h1 h2
        omega
      have hC := Lib.hid (hR'.out j x hx wr _ _ _ hT5 (by omega))
      have hE2 : (out ++ (x.ps ++ TM.prs x.ks)) ++ TM.prs (ks.dr (j + 1)) = ps ++ TM.prs ks := by
        rw [← hE.out, hpe]; simp
      have hE2' := Lib.hid hE2
      have hl2 : out.length + (x.ps ++ TM.prs x.ks).length ≤ 1000000 := by omega
      have hl2' := Lib.hid hl2
      unfold tmv at hC
      generalize x.ps ++ TM.prs x.ks = xs at hC hE2' hl2'
      have hws := Lib.hid hb.size
      generalize hln : out.length = L8 at hO ht ⊢
      have ht' := Lib.hid ht
      have hln' := Lib.hid hln
      clear hx hT5 hpi hpe hmm hE2 hl2 hE ht hln
      go_wp2_with (first
        | (go_at_call 26
           refine hC.out.mono ?_
           rintro e w3 ⟨v3, rfl, hO3, hb3⟩
           obtain ⟨A3, c3, rfl, -⟩ := hO3.read
           have hM3 := hM1.below hb3 hM1.lt
           have hb4 : Below w.heap.size w w3 := hb.trans (hb3.mono hb.size)
           have hO4 := hO.below hb3
           have hs3 := Lib.hid hb3.size
           clear hb3 p0 p1 p2 pp p4 p55 p6 pi pk y8)
        | (at_builtin
           refine wpList_append_ints (B := w.heap.size) (v := .slice A8 L8 c8) (x := .slice A3 xs.length c3) rfl _ _ 22 rfl Tryz.underlying22 rfl rfl hO4 hO3 hl2'.out (Nat.le_trans hws.out hs3.out) ?_
           intro v9 w9 hown9 hg9 hat9
           have T1 := Turns.appended hg9
           have hlo : ∀ g, (Value.slice A8 L8 c8).ownBlock = some g → w.heap.size < g := ht'.out
           have hM5 := hM3.turns T1 (fun hh => by have := hlo _ hh; omega)
           have hb9 : Below w.heap.size w w9 := ((Turns.of_below hb4 (fun _ => False)).then T1 (fun k hk hh => by have := hlo _ hh; omega)).below (Nat.le_refl _) (fun _ h => h.elim)
           have ht9 : ∀ g, v9.ownBlock = some g → w.heap.size < g := fun g hh => by
             rcases hat9 with e | e
             · rw [e] at hh; exact hlo g hh
             · rw [e] at hh
               simp only [Option.some.injEq] at hh
               have := hM3.lt
               omega
           clear hg9 hat9 T1 hlo))
      go_roundw
      case rel => exact ⟨j + 1, _, by omega, by go_num, hown9, ht9, hE2', hM5, hb9⟩
      case measure => simp [intOf]; omega
    · obtain rfl : j = N := by omega
      have hE2 := hE.out
      rw [Tl.dr_end ks j (by rw [hN'.out]; exact Nat.le_refl _), TM.prs, List.append_nil] at hE2
      subst hE2
      have hO' := Lib.hid hO
      generalize hln : (ps ++ TM.prs ks).length = L8
      have hln' := Lib.hid hln
      clear hE hO hln
      go_wp2_with fail
      go_ret
      exact ⟨_, rfl, by rw [← hln'.out]; exact hO'.out, hb⟩
theorem params_any (t : Tm) : PmOk t := Tl.all_one PmOk pm_step t
end Go.Proofs.YtpiekdcbjkgipaaGreat
