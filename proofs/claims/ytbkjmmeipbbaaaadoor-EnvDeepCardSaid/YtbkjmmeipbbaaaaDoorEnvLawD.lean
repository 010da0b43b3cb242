/- The law EnvDeep. -/
import Derived.Test.YtbkjmmeipbbaaaaDoorEnvLaws
import Derived.Test.YtbkjmmeipbbaaaaDoorEnvCame
namespace Go.Proofs.YtbkjmmeipbbaaaaDoor
open Go.ChangeShapes Go.WideShapes Go.ChangeAt Go.RowKit

namespace EM
/-- a table without aliases and top, each place within the one ahead -/
def Bare (T : Tb) : Prop := Ok T ∧ T.tp = (fun _ => none) ∧ T.A = (fun _ => none)
theorem Bare.bs {T : Tb} (h : Bare T) (a : Nat) (x : ByteArray) : bs T a x = ⟨nr T.P x a, x⟩ := by
  unfold EM.bs
  rw [h.2.2]
  by_cases hz : nr T.P x a = 0
  · rw [if_pos hz, hz]; rfl
  · rw [if_neg hz]
theorem Bare.kd {T : Tb} (h : Bare T) (x : ByteArray) : kd T x = if sy x = true then 1 else 0 := by
  unfold EM.kd
  rw [h.2.2]
  split <;> rfl
theorem Bare.ext {T : Tb} (h : Bare T) (a : Int) (x : ByteArray) (k n : Int) : Bare (ext T a x k n) := by
  refine ⟨h.1.ext a x k n, ?_, ?_⟩
  · unfold EM.ext; split <;> exact h.2.1
  · unfold EM.ext; split <;> exact h.2.2
theorem ext_yes {T : Tb} {a : Int} {x : ByteArray} {k n : Int} (h : xe T a x k = 0) : ext T a x k n = { T with P := T.P ++ [⟨a.toNat, x, k, n⟩] } := by unfold EM.ext; rw [if_pos h]
theorem ext_no {T : Tb} {a : Int} {x : ByteArray} {k n : Int} (h : ¬ xe T a x k = 0) : ext T a x k n = T := by unfold EM.ext; rw [if_neg h]
/-- what a name means one place deeper -/
theorem Bare.deep {T : Tb} (h : Bare T) (x y : ByteArray) (k n : Int) (hl : T.P.length < 65536) :
    mean { T with P := T.P ++ [⟨T.P.length, x, k, n⟩] } ⟨nr (T.P ++ [⟨T.P.length, x, k, n⟩]) y (T.P.length + 1), y⟩ = if x = y then (k, n) else mean T ⟨nr T.P y T.P.length, y⟩ := by
  have hu : Ups (T.P ++ [⟨T.P.length, x, k, n⟩]) := h.1.ups.snoc (Nat.le_refl _)
  have hs := nr_step hu y (a := T.P.length + 1) (p := ⟨T.P.length, x, k, n⟩) (by omega) (by simp)
  rw [hs]
  by_cases e : x = y
  · rw [if_pos e, if_pos e]
    unfold mean
    simp
  · rw [if_neg e, if_neg e, nr_append h.1.ups y (Nat.le_refl _)]
    have hle := nr_le h.1.ups y T.P.length
    unfold mean
    by_cases hz : nr T.P y T.P.length = 0
    · simp only [hz, if_true]
    · simp only [hz, if_false]
      rw [List.getElem?_append_left (by omega)]
/-- a name that is none is bound nowhere -/
theorem Bare.none_ {T : Tb} (h : Bare T) (x : ByteArray) (hx : sy x = false) (a : Nat) : mean T ⟨nr T.P x a, x⟩ = (0, 0) := by
  have : nr T.P x a = 0 := nr_none (fun p hp e => by
    rcases h.1.pn p hp with hs | hs
    · rw [e, hx] at hs; cases hs
    · rw [h.2.2] at hs; cases hs)
  rw [this]
  unfold mean
  rw [h.2.1]
  rfl
end EM
theorem tb0_bare : EM.Bare tb0 := ⟨tb0_ok, rfl, rfl⟩

set_option maxRecDepth 100000 in
set_option maxHeartbeats 8000000 in
theorem envDeep_walk (A : Option Addr) (n c : Nat) (S : Nat → ByteArray) (ask : ByteArray) (w : World) (hn : n ≤ maxLen) (hC : CameStrs w A n S) (_hask : ask.size ≤ maxLen) (hM : MTab w) (hT : Tab w) :
    Calls Tryd.prog 5 #[.slice A n c, .string ask] w fun e w' => e = .returned (.bool true) ∧ Below w.heap.size w w' := by
  have hA := Lib.hid (fun w' (h : Below w.heap.size w w') => awake_any w' (hM.on h) (hT.on h))
  have hN := Lib.hid (fun w => new_any w)
  have hD0 := Tw.made w
  obtain ⟨W1, hW1⟩ : ∃ W1, w.alloc (.cells #[.map none, .slice none 0 0, .map none] 63) = W1 := ⟨_, rfl⟩
  rw [hW1] at hD0
  have hb1 : Below w.heap.size w W1 := by rw [← hW1]; exact (Below.refl _ w).alloc (Nat.le_refl _) _
  have hW1' := Lib.hid hW1
  have hD0' := Lib.hid hD0
  have hb1' := Lib.hid hb1
  have hC' := Lib.hid hC
  have hn' := Lib.hid hn
  clear hM hT hD0 hb1 hC hW1
  by_cases hn60 : 60 < n
  · clear hn'
    have hq : ((60 : Int) < (n : Int)) := by omega
    go_enter Tryd.func5, Tryd.ntmps5
    go_wp2_with (first
      | (go_at_call 7; refine (hN.out _).mono ?_; rintro e w1 ⟨rfl, rfl⟩; rw [hW1'.out]; have bb := Lib.hid hb1'.out)
      | (go_at_call 6; (with_reducible refine (hA.out _ bb.out).mono ?_); rintro e w5 ⟨rfl, h⟩; have bb := Lib.hid (bb.out.trans (Below.mono h bb.out.size)); clear h))
    go_ret
    exact ⟨rfl, bb.out⟩
  · by_cases ha100 : 100 < ask.size
    · clear hn'
      have hq : ¬ ((60 : Int) < (n : Int)) := by omega
      have hq2 : ((100 : Int) < (ask.size : Int)) := by omega
      go_enter Tryd.func5, Tryd.ntmps5
      go_wp2_with (first
        | (go_at_call 7; refine (hN.out _).mono ?_; rintro e w1 ⟨rfl, rfl⟩; rw [hW1'.out]; have bb := Lib.hid hb1'.out)
        | (go_at_call 6; (with_reducible refine (hA.out _ bb.out).mono ?_); rintro e w5 ⟨rfl, h⟩; have bb := Lib.hid (bb.out.trans (Below.mono h bb.out.size)); clear h))
      go_ret
      exact ⟨rfl, bb.out⟩
    · have hq : ¬ ((60 : Int) < (n : Int)) := by omega
      have hq2 : ¬ ((100 : Int) < (ask.size : Int)) := by omega
      have hask' := Lib.hid (show ask.size ≤ 1000 by omega)
      have hn60' := Lib.hid (show n ≤ 60 by omega)
      clear hn60 ha100 _hask
      have hp1 : w.heap.size < W1.heap.size := by rw [← hW1'.out]; simp
      go_enter Tryd.func5, Tryd.ntmps5
      go_wp2_with (first
        | (go_at_call 7; refine (hN.out _).mono ?_; rintro e w1 ⟨rfl, rfl⟩; rw [hW1'.out])
        | (go_at_call 6; (with_reducible refine (hA.out _ hb1'.out).mono ?_); rintro e w2 ⟨rfl, h⟩
           have b2 := hb1'.out.trans (Below.mono h hb1'.out.size)
           have g2 := (Below.refl _ w2).alloc (Nat.le_refl w2.heap.size) (.cells #[.int .i64 0, .int .i64 0] 24)
           have T2 := Lib.hid ((hD0'.out.below h).below g2)
           have L2 := Lib.hid (Lies.made w2 24 #[.int .i64 0, .int .i64 0])
           have B2 := Lib.hid (b2.trans (Below.mono g2 b2.size))
           have hlt2 : w.heap.size < w2.heap.size := Nat.lt_of_lt_of_le hp1 h.size
           clear h b2 g2))
      go_loopw [40, 6] (fun i a wr => ∃ (j m : Nat) (T : EM.Tb) (D : Nat → Prop) (wk wn : Int), j ≤ n ∧ i = .int .i64 j ∧ a = .int .i64 m ∧ Hid (EM.Bare T ∧ T.P.length = m ∧ m ≤ j ∧ EM.mean T ⟨EM.nr T.P ask m, ask⟩ = (wk, wn)) ∧ Hid (Tw wr w.heap.size D T ∧ (∀ g, D g → w.heap.size ≤ g) ∧ ¬ D w2.heap.size) ∧ Hid (Lies wr w2.heap.size 24 [.int .i64 wk, .int .i64 wn]) ∧ Hid (Below w.heap.size w wr)) (fun i _ _ => n - (intOf i).toNat)
      case atStart =>
        exact ⟨0, 0, tb0, _, 0, 0, by omega, rfl, rfl, ⟨tb0_bare, rfl, Nat.le_refl _, rfl⟩, ⟨T2.out, fun g hg => by have : g = w.heap.size := hg; omega, fun h => by have : w2.heap.size = w.heap.size := h; omega⟩, L2, B2⟩
      case round =>
        obtain ⟨j, m, T, D, wk, wn, hj, rfl, rfl, hB, hTw, hL, hb⟩ := hrel
        clear T2 L2 B2
        by_cases hlt : j < n
        · obtain ⟨g, o, hAg, hg, k0⟩ := hC'.out.at_ hb.out hlt
          subst hAg
          have hSj := hC'.out.1 j
          obtain ⟨s, hs⟩ : ∃ s, S j = s := ⟨_, rfl⟩
          rw [hs] at k0 hSj
          clear hs
          by_cases hs100 : 100 < s.size
          · have hq3 : ((100 : Int) < (s.size : Int)) := by omega
            clear hSj
            go_wp2
            go_ret
            exact ⟨rfl, hb.out⟩
          · have hq3 : ¬ ((100 : Int) < (s.size : Int)) := by omega
            have hlr := hL.out.lt
            have gw := (Below.refl _ wr).alloc (Nat.le_refl wr.heap.size) (.cells #[.int .i64 1, .int .i64 (j : Nat)] 24)
            have hTx := hTw.out.1.below gw
            have hE := ext_any w.heap.size D T hB.out.1.1 (m : Nat) s (by omega) 1 (j : Nat) (wr.alloc (.cells #[.int .i64 1, .int .i64 (j : Nat)] 24)) hTx
            have hLx := Lib.hid (hL.out.below gw hL.out.lt)
            have hMx := Lib.hid (Lies.made wr 24 #[.int .i64 1, .int .i64 (j : Nat)])
            have hbx := Lib.hid (hb.out.trans (Below.mono gw hb.out.size))
            have hP := hB.out.2.1
            have hm60 : m ≤ 60 := by have h1 := hB.out.2.2.1; have h2 := hn60'.out; omega
            have hm60' := Lib.hid hm60
            have hDl := Lib.hid hTw.out.1.low
            by_cases hx0 : EM.xe T (m : Nat) s 1 = 0
            · rw [hx0, if_pos rfl, er_n, hP, EM.ext_yes hx0, Int.toNat_natCast] at hE
              have hE' := Lib.hid hE
              have hB1 : Hid (EM.Bare { T with P := T.P ++ [⟨m, s, 1, (j : Nat)⟩] }) := by
                have := hB.out.1.ext (m : Nat) s 1 (j : Nat)
                rw [EM.ext_yes hx0, Int.toNat_natCast] at this
                exact this
              have hd := hB.out.1.deep s ask 1 (j : Nat) (by omega)
              rw [hP] at hd
              rw [hB.out.2.2.2] at hd
              have hP' := Lib.hid hP
              clear hE gw hTx hx0 hm60 hP
              by_cases he : s = ask
              · rw [if_pos he] at hd
                have hd' := Lib.hid hd
                subst he
                clear hd
                go_wp2_with (
                  go_at_call 11
                  refine hE'.out.mono ?_
                  rintro e w7 ⟨rfl, h⟩
                  obtain ⟨D', h1, h2, h3⟩ := h
                  have l7 := hLx.out.turns h3 (fun hh => hTw.out.2.2 hh)
                  have m7 := hMx.out.turns h3 (fun hh => by have := hDl.out _ hh; omega)
                  have y0 : w7.cell? ⟨wr.heap.size, 0, none⟩ = some (.int .i64 1) := m7.cell 0
                  have y1 : w7.cell? ⟨wr.heap.size, 1, none⟩ = some (.int .i64 (j : Nat)) := m7.cell 1
                  have z0 : w7.cell? ⟨w2.heap.size, 0, none⟩ = some (.int .i64 wk) := l7.cell 0
                  have z1 : w7.cell? ⟨w2.heap.size, 1, none⟩ = some (.int .i64 wn) := l7.cell 1
                  have v0 : w7.frozen? ⟨w2.heap.size, 0, none⟩ = false := l7.free 0
                  have v1 : w7.frozen? ⟨w2.heap.size, 1, none⟩ = false := l7.free 1
                  have nD : ¬ D' w2.heap.size := fun hh => by
                    rcases h2 _ hh with h | h
                    · exact hTw.out.2.2 h
                    · simp at h; omega
                  have Ts := (Turns.refl (fun g => g = w2.heap.size) w7).setCell (p := ⟨w2.heap.size, 0, none⟩) (fun _ => rfl) (.int .i64 1)
                  have Ts2 := Ts.setCell (p := ⟨w2.heap.size, 1, none⟩) (fun _ => rfl) (.int .i64 (j : Nat))
                  have TT := Lib.hid (h1.turns Ts2 (fun g hg e => nD (e ▸ hg)))
                  have nD' := Lib.hid nD
                  have l8 := Lib.hid ((l7.stored 0 (.int .i64 1)).stored 1 (.int .i64 (j : Nat)))
                  have hD7 := Lib.hid (fun g (hg : D' g) => show w.heap.size ≤ g by
                    rcases h2 _ hg with h | h
                    · exact hTw.out.2.1 g h
                    · simp at h; have := hb.out.size; omega)
                  have hb7 := Lib.hid (((hbx.out.trans (h3.below hbx.out.size hTw.out.2.1)).setCell (p := ⟨w2.heap.size, 0, none⟩) (by show w.heap.size ≤ w2.heap.size; omega) (.int .i64 1)).setCell (p := ⟨w2.heap.size, 1, none⟩) (by show w.heap.size ≤ w2.heap.size; omega) (.int .i64 (j : Nat)))
                  clear h1 h2 h3 l7 m7 nD Ts Ts2)
                go_roundw
                case rel =>
                  exact ⟨j + 1, m + 1, { T with P := T.P ++ [⟨m, s, 1, (j : Nat)⟩] }, D', 1, j, by omega, by go_num, by go_num, ⟨hB1.out, by simp [hP'.out], by have := hB.out.2.2.1; omega, hd'.out⟩, ⟨TT.out, hD7.out, nD'.out⟩, l8, hb7⟩
                case measure => simp [intOf]; omega
              · rw [if_neg he] at hd
                have hd' := Lib.hid hd
                obtain ⟨n1, n2, n3⟩ := tl_ne he
                clear hd he
                go_wp2_with (
                  go_at_call 11
                  refine hE'.out.mono ?_
                  rintro e w7 ⟨rfl, h⟩
                  obtain ⟨D', h1, h2, h3⟩ := h
                  have l8 := Lib.hid (hLx.out.turns h3 (fun hh => hTw.out.2.2 hh))
                  have nD : ¬ D' w2.heap.size := fun hh => by
                    rcases h2 _ hh with h | h
                    · exact hTw.out.2.2 h
                    · simp at h; omega
                  have TT := Lib.hid h1
                  have nD' := Lib.hid nD
                  have hD7 := Lib.hid (fun g (hg : D' g) => show w.heap.size ≤ g by
                    rcases h2 _ hg with h | h
                    · exact hTw.out.2.1 g h
                    · simp at h; have := hb.out.size; omega)
                  have hb7 := Lib.hid (hbx.out.trans (h3.below hbx.out.size hTw.out.2.1))
                  clear h1 h2 h3 nD)
                go_roundw
                case rel =>
                  exact ⟨j + 1, m + 1, { T with P := T.P ++ [⟨m, s, 1, (j : Nat)⟩] }, D', wk, wn, by omega, by go_num, by go_num, ⟨hB1.out, by simp [hP'.out], by have := hB.out.2.2.1; omega, hd'.out⟩, ⟨TT.out, hD7.out, nD'.out⟩, l8, hb7⟩
                case measure => simp [intOf]; omega
            · rw [if_neg hx0, er_y hx0, EM.ext_no hx0] at hE
              obtain ⟨ee, hee⟩ : ∃ ee, EM.xe T (m : Nat) s 1 = ee := ⟨_, rfl⟩
              rw [hee] at hE
              have hE' := Lib.hid hE
              clear hE gw hTx hx0 hm60 hP hee
              go_wp2_with (
                go_at_call 11
                refine hE'.out.mono ?_
                rintro e w7 ⟨rfl, h⟩
                obtain ⟨D', h1, h2, h3⟩ := h
                have l8 := Lib.hid (hLx.out.turns h3 (fun hh => hTw.out.2.2 hh))
                have nD : ¬ D' w2.heap.size := fun hh => by
                  rcases h2 _ hh with h | h
                  · exact hTw.out.2.2 h
                  · simp at h; omega
                have TT := Lib.hid h1
                have nD' := Lib.hid nD
                have hD7 := Lib.hid (fun g (hg : D' g) => show w.heap.size ≤ g by
                  rcases h2 _ hg with h | h
                  · exact hTw.out.2.1 g h
                  · simp at h; have := hb.out.size; omega)
                have hb7 := Lib.hid (hbx.out.trans (h3.below hbx.out.size hTw.out.2.1))
                clear h1 h2 h3 nD)
              go_roundw
              case rel =>
                exact ⟨j + 1, m, T, D', wk, wn, by omega, by go_num, rfl, ⟨hB.out.1, hB.out.2.1, by have := hB.out.2.2.1; omega, hB.out.2.2.2⟩, ⟨TT.out, hD7.out, nD'.out⟩, l8, hb7⟩
              case measure => simp [intOf]; omega
        · have hF := find_any w.heap.size D T hB.out.1.1 (m : Nat) ask hask'.out wr hTw.out.1
          have hP := hB.out.2.1
          have hlr := hL.out.lt
          cases hs : EM.sy ask with
          | true =>
            have hck : EM.ck T (m : Nat) ask = 0 := by
              unfold EM.ck
              rw [if_neg (by omega), hB.out.1.kd, hs, if_pos rfl, if_neg (by decide)]
            have hfm : EM.fm T (m : Nat) ask = (wk, wn) := by
              unfold EM.fm
              rw [hck, if_pos rfl, Int.toNat_natCast, hB.out.1.bs, hB.out.2.2.2]
            rw [hck, hfm, er_n] at hF
            simp only [encM] at hF
            have hF' := Lib.hid hF
            have hq9 := fun w => eql_mean wk wn wk wn w
            rw [decide_eq_true (show wk = wk ∧ wn = wn from ⟨rfl, rfl⟩)] at hq9
            clear hF hP hs hck hfm
            go_wp2_with (
              go_at_call 15
              refine hF'.out.mono ?_
              rintro e w7 ⟨rfl, h⟩
              have g7 := (Below.refl _ w7).alloc (Nat.le_refl w7.heap.size) (.cells #[.int .i64 wk, .int .i64 wn] 24)
              have l7 := (hL.out.below h hL.out.lt).below g7 (hL.out.below h hL.out.lt).lt
              have z0 : (w7.alloc (.cells #[.int .i64 wk, .int .i64 wn] 24)).cell? ⟨w2.heap.size, 0, none⟩ = some (.int .i64 wk) := l7.cell 0
              have z1 : (w7.alloc (.cells #[.int .i64 wk, .int .i64 wn] 24)).cell? ⟨w2.heap.size, 1, none⟩ = some (.int .i64 wn) := l7.cell 1
              have hb7 := Lib.hid ((hb.out.trans (Below.mono h hb.out.size)).trans (Below.mono g7 (hb.out.trans (Below.mono h hb.out.size)).size))
              clear h g7 l7)
            go_ret
            exact ⟨rfl, hb7.out⟩
          | false =>
            have hck : EM.ck T (m : Nat) ask = 2 := by
              unfold EM.ck
              rw [if_neg (by omega), hB.out.1.kd, hs]
              rfl
            have hfm : EM.fm T (m : Nat) ask = (0, 0) := by
              unfold EM.fm
              rw [hck, if_neg (by decide)]
            rw [hck, hfm, er_y (by omega)] at hF
            simp only [encM] at hF
            have hF' := Lib.hid hF
            have hw0 : (wk, wn) = (0, 0) := by rw [← hB.out.2.2.2]; exact hB.out.1.none_ ask hs m
            simp only [Prod.mk.injEq] at hw0
            obtain ⟨rfl, rfl⟩ := hw0
            have hq9 := fun w => eql_mean 0 0 0 0 w
            rw [decide_eq_true (show (0 : Int) = 0 ∧ (0 : Int) = 0 from ⟨rfl, rfl⟩)] at hq9
            have hIs := Lib.hid (fun w => is_same 2 w)
            clear hF hP hs hck hfm
            go_wp2_with (first
              | (go_at_call 15
                 refine hF'.out.mono ?_
                 rintro e w7 ⟨rfl, h⟩
                 have g7 := (Below.refl _ w7).alloc (Nat.le_refl w7.heap.size) (.cells #[.int .i64 0, .int .i64 0] 24)
                 have l7 := (hL.out.below h hL.out.lt).below g7 (hL.out.below h hL.out.lt).lt
                 have z0 : (w7.alloc (.cells #[.int .i64 0, .int .i64 0] 24)).cell? ⟨w2.heap.size, 0, none⟩ = some (.int .i64 0) := l7.cell 0
                 have z1 : (w7.alloc (.cells #[.int .i64 0, .int .i64 0] 24)).cell? ⟨w2.heap.size, 1, none⟩ = some (.int .i64 0) := l7.cell 1
                 have hb7 := Lib.hid ((hb.out.trans (Below.mono h hb.out.size)).trans (Below.mono g7 (hb.out.trans (Below.mono h hb.out.size)).size))
                 clear h g7 l7)
              | (go_at_call 19; (with_reducible refine (hIs.out _).mono ?_); rintro e w9 ⟨rfl, rfl⟩))
            go_ret
            exact ⟨rfl, hb7.out⟩
end Go.Proofs.YtbkjmmeipbbaaaaDoor
